/-
  Contracts and plain functions that the law stands on, part 2 of 5.
-/
import Derived.Test.YtaimmdhjfccnkaaGreatDoorQ1
import Derived.OrdersHeld
import Derived.Deep.RegionHeld
import Derived.BigQuiet
import Derived.Deep.RegionWith
import Derived.Shelf.Strings.Replace
import Derived.Shelf.Strings.MapGrows
import Derived.KernelRfl
namespace Go.Proofs.YtaimmdhjfccnkaaGreatDoor
/- A region that draws its order, gone through once an operation, not once an order: each operation leaves a fact that no later call breaks. -/
section
open Go.RowKit

/-- a fact of a value, kept by whatever leaves alone what was there -/
structure Stb where
  p : Value → World → Prop
  st : ∀ v u u', p v u → Below u.heap.size u u' → p v u'
def Stb.any : Stb := ⟨fun _ _ => True, fun _ _ _ _ _ => trivial⟩
/-- the value is known -/
def Stb.eq (c : Value) : Stb := ⟨fun v _ => v = c, fun _ _ _ h _ => h⟩
def Stb.find : List (Nat × Stb) → Nat → Stb
  | [], _ => Stb.any
  | (t, s) :: r, u => bif Nat.beq t u then s else Stb.find r u

def dstOf (ops : Array Oper) (j : Nat) : Option Tmp := (ops[j]?).bind (·.dst)
/-- the slots of what an operation waits for -/
def waitsFor (ops : Array Oper) (o : Oper) : List Nat := (o.after.toList.filter (Region.binds .any)).filterMap fun e => dstOf ops e.on
def dstsOf (ops : Array Oper) : List Nat := ops.toList.filterMap (·.dst)

/-- what a region leaves of a frame -/
structure Stand (ops : Array Oper) (a0 a : Act) : Prop where
  size : a.tmps.size = a0.tmps.size
  defers : a.defers = a0.defers
  out : ∀ t, (dstsOf ops).contains t = false → a.tmps.getD t undef = a0.tmps.getD t undef

theorem gd {a : Act} {t : Nat} {v : Value} (h : a.tmps.getD t undef = v) : a.tmps[t]?.getD undef = v := by rw [← Array.getD_eq_getD_getElem?]; exact h

def Wants (ops : Array Oper) (a : Act) (o : Oper) : Prop :=
  match o.guard with
  | none => True
  | some (j, b) => ∃ t, dstOf ops j = some t ∧ a.tmps.getD t undef = .bool b

theorem wants {ops : Array Oper} {a : Act} {o : Oper} (h : Wants ops a o) : Region.wanted o (yielded ops a.tmps) = true := by
  unfold Wants at h
  unfold Region.wanted
  split at h
  · rename_i hg; rw [hg]
  · rename_i j b hg
    obtain ⟨t, ht, hv⟩ := h
    rw [hg]
    have hlt : t < a.tmps.size := by
      rcases Nat.lt_or_ge t a.tmps.size with h | h
      · exact h
      · rw [Array.getD_eq_getD_getElem?, Array.getElem?_eq_none h] at hv
        simp [undef] at hv
    rw [Array.getD_eq_getD_getElem?, Array.getElem?_eq_getElem hlt] at hv
    simp only [Option.getD_some] at hv
    unfold dstOf at ht
    simp [yielded, ht, Array.getElem?_eq_getElem hlt, hv]

/-- each operation of a list, with its number -/
def EachOp (C : Nat → Oper → Prop) : Nat → List Oper → Prop
  | _, [] => True
  | k, o :: r => C k o ∧ EachOp C (k + 1) r
theorem EachOp.cons {C : Nat → Oper → Prop} {k : Nat} {o : Oper} {r : List Oper} (h : C k o) (t : EachOp C (k + 1) r) : EachOp C k (o :: r) := ⟨h, t⟩
theorem EachOp.nil {C : Nat → Oper → Prop} {k : Nat} : EachOp C k [] := trivial
theorem EachOp.at_ {C : Nat → Oper → Prop} : ∀ {l : List Oper} {k : Nat}, EachOp C k l → ∀ (i : Nat) (o : Oper), l[i]? = some o → C (k + i) o
  | [], _, _, i, o, h => by simp at h
  | x :: r, k, hh, 0, o, h => by simp at h; subst h; exact hh.1
  | x :: r, k, hh, i + 1, o, h => by
    have := EachOp.at_ hh.2 i o (by simpa using h)
    rwa [show k + 1 + i = k + (i + 1) by omega] at this

theorem filter_lt {l : List Nat} {p q : Nat → Bool} (h : ∀ x, q x = true → p x = true) {i : Nat} (hi : i ∈ l) (hp : p i = true) (hq : q i = false) : (l.filter q).length < (l.filter p).length := by
  induction l with
  | nil => simp at hi
  | cons x r ih =>
    have hle : (r.filter q).length ≤ (r.filter p).length := by
      clear ih hi
      induction r with
      | nil => simp
      | cons y r ih =>
        rw [List.filter_cons, List.filter_cons]
        by_cases hy : q y = true
        · rw [if_pos hy, if_pos (h y hy)]; simp; exact ih
        · rw [if_neg hy]
          split
          · simp; omega
          · exact ih
    rcases List.mem_cons.1 hi with rfl | hi
    · rw [List.filter_cons, List.filter_cons, if_pos hp, if_neg (by simp [hq])]
      simp; omega
    · have := ih hi
      rw [List.filter_cons, List.filter_cons]
      by_cases hx : q x = true
      · rw [if_pos hx, if_pos (h x hx)]; simp; exact this
      · rw [if_neg hx]
        split
        · simp; omega
        · exact this

/-- the checks that a region's table must pass -/
def regOk (ops : Array Oper) (n : Nat) : Bool :=
  ops.toList.all (fun o => match o.dst with | some d => decide (d < n) | none => false) &&
  decide ((dstsOf ops).length = ops.size) && decide (dstsOf ops).Nodup &&
  ops.toList.zipIdx.all (fun (o, i) => o.after.all fun e => !Region.binds .any e || decide (e.on < i))

theorem dsts_getElem {ops : Array Oper} (h : ∀ o ∈ ops.toList, ∃ d, o.dst = some d) : ∀ i : Nat, (dstsOf ops)[i]? = dstOf ops i := by
  unfold dstsOf dstOf
  obtain ⟨l⟩ := ops
  simp only [List.getElem?_toArray] at *
  induction l with
  | nil => intro i; simp
  | cons o r ih =>
    intro i
    obtain ⟨d, hd⟩ := h o (by simp)
    have ih' := ih (fun x hx => h x (by simp at hx ⊢; exact .inr hx))
    cases i with
    | zero => simp [hd]
    | succ i => simpa [hd] using ih' i

section
variable {P : Program} {ops : Array Oper} {Q : Exit → Act → World → Prop}

/-- what one operation leaves -/
def Goes (S : World → Prop) (Sp : Nat → Stb) (a : Act) (d : Option Tmp) (w : World) (a' : Act) (w' : World) : Prop :=
  ∃ v, a' = a.put d v ∧ S w' ∧ Below w.heap.size w w' ∧ ∀ t, d = some t → (Sp t).p v w'
theorem Goes.same {S : World → Prop} {Sp : Nat → Stb} {a : Act} {t : Nat} {w : World} {v : Value} (hS : S w) (h : (Sp t).p v w) : Goes S Sp a (some t) w { tmps := a.tmps.setIfInBounds t v, defers := a.defers } w :=
  ⟨v, rfl, hS, Below.refl _ _, fun _ e => by injection e with e; subst e; exact h⟩
theorem Goes.next {S : World → Prop} {Sp : Nat → Stb} {a : Act} {t : Nat} {w w' : World} {v : Value} (hS : S w') (hb : Below w.heap.size w w') (h : (Sp t).p v w') : Goes S Sp a (some t) w { tmps := a.tmps.setIfInBounds t v, defers := a.defers } w' :=
  ⟨v, rfl, hS, hb, fun _ e => by injection e with e; subst e; exact h⟩

/-- the slots of what must come behind an operation -/
def laterOf (ops : Array Oper) (i : Nat) : List Nat := (ops.toList.filter fun o => o.after.any fun e => Region.binds .any e && e.on == i).filterMap (·.dst)
/-- what an operation meets: beside what the region leaves, what is written behind it alone is as it was -/
structure StandI (ops : Array Oper) (i : Nat) (a0 a : Act) : Prop extends Stand ops a0 a where
  old : ∀ t, (laterOf ops i).contains t = true → a.tmps.getD t undef = a0.tmps.getD t undef
/-- what is asked of one operation -/
def OkOp (P : Program) (ops : Array Oper) (Q : Exit → Act → World → Prop) (S : World → Prop) (Sp : Nat → Stb) (a0 : Act) (i : Nat) (o : Oper) : Prop :=
  ∀ a w, StandI ops i a0 a → S w → (∀ t, (waitsFor ops o).contains t = true → (Sp t).p (a.tmps.getD t undef) w) →
    Wants ops a o ∧ o.wp P a w (Goes S Sp a o.dst w) Q

theorem wpAny_specs (S : World → Prop) (Sp : Nat → Stb) (a0 : Act) (hok : regOk ops a0.tmps.size = true)
    (each : EachOp (OkOp P ops Q S Sp a0) 0 ops.toList)
    (fin : ∀ a w, Stand ops a0 a → S w → (∀ t, (dstsOf ops).contains t = true → (Sp t).p (a.tmps.getD t undef) w) → Q .normal a w) :
    ∀ (fuel : Nat) (listed : Array Bool) (a : Act) (w : World), listed.size = ops.size → ((List.range ops.size).filter fun i => !listed.getD i true).length ≤ fuel →
      Stand ops a0 a → S w → (∀ i d, listed.getD i false = true → dstOf ops i = some d → (Sp d).p (a.tmps.getD d undef) w) →
      (∀ j d, j < ops.size → listed.getD j false = false → dstOf ops j = some d → a.tmps.getD d undef = a0.tmps.getD d undef) →
      (∀ j o, listed.getD j false = true → ops[j]? = some o → ∀ e ∈ o.after, Region.binds .any e = true → listed.getD e.on false = true) → wpAny P .any ops Q fuel listed a w := by
  simp only [regOk, Bool.and_eq_true, List.all_eq_true, decide_eq_true_eq] at hok
  obtain ⟨⟨⟨hdst, hlen⟩, hnd⟩, hlow⟩ := hok
  have hdst' : ∀ o ∈ ops.toList, ∃ d, o.dst = some d ∧ d < a0.tmps.size := fun o ho => by
    have := hdst o ho
    split at this
    · rename_i d hd; exact ⟨d, hd, by simpa using this⟩
    · cases this
  have hget := dsts_getElem (ops := ops) (fun o ho => (hdst' o ho).imp fun d h => h.1)
  have hinj : ∀ i j d, dstOf ops i = some d → dstOf ops j = some d → i = j := fun i j d hi hj => by
    rw [← hget] at hi hj
    obtain ⟨hi1, hi2⟩ := List.getElem?_eq_some_iff.1 hi
    obtain ⟨hj1, hj2⟩ := List.getElem?_eq_some_iff.1 hj
    have hp := List.pairwise_iff_getElem.1 hnd
    rcases Nat.lt_trichotomy i j with h | h | h
    · exact absurd (hi2.trans hj2.symm) (hp i j hi1 hj1 h)
    · exact h
    · exact absurd (hj2.trans hi2.symm) (hp j i hj1 hi1 h)
  have hready0 : ∀ listed : Array Bool, listed.size = ops.size → Region.ready .any ops listed = [] → ∀ i, i < ops.size → listed.getD i false = true := by
    intro listed hsz hr i
    induction i using Nat.strongRecOn with
    | _ i ih =>
      intro hi
      cases hl : listed.getD i false with
      | true => rfl
      | false =>
        exfalso
        have hl2 : listed.getD i true = false := by
          rw [Array.getD_eq_getD_getElem?, Array.getElem?_eq_getElem (by omega)] at hl ⊢; simpa using hl
        have hm : i ∈ Region.ready .any ops listed := by
          unfold Region.ready
          rw [List.mem_filter]
          refine ⟨List.mem_range.2 hi, ?_⟩
          rw [hl2, Array.getElem?_eq_getElem hi]
          simp only [Bool.not_false, Bool.true_and, Option.map_some, Option.getD_some, Array.all_eq_true_iff_forall_mem]
          intro e he
          have h1 := hlow (ops[i], i) (by rw [List.mem_zipIdx_iff_getElem?]; simp [hi])
          simp only [Array.all_eq_true_iff_forall_mem] at h1
          have h2 := h1 e he
          cases hb : Region.binds .any e with
          | false => simp
          | true =>
            rw [hb] at h2
            have h3 : e.on < i := by simpa using h2
            simp [ih e.on h3 (by omega)]
        rw [hr] at hm
        cases hm
  have hfin : ∀ listed a w, listed.size = ops.size → Stand ops a0 a → S w → (∀ i d, listed.getD i false = true → dstOf ops i = some d → (Sp d).p (a.tmps.getD d undef) w) → Region.ready .any ops listed = [] → Q .normal a w := by
    intro listed a w hsz hst hS hsp hr
    refine fin a w hst hS fun t ht => ?_
    obtain ⟨i, hi, he⟩ := List.mem_iff_getElem.1 (List.contains_iff_mem.1 ht)
    have hd : dstOf ops i = some t := by rw [← hget, List.getElem?_eq_getElem hi, he]
    exact hsp i t (hready0 listed hsz hr i (by omega)) hd
  intro fuel
  induction fuel with
  | zero =>
    intro listed a w hsz hc hst hS hsp _ _
    have hr : Region.ready .any ops listed = [] := by
      have h0 : ((List.range ops.size).filter fun i => !listed.getD i true) = [] := List.eq_nil_of_length_eq_zero (by omega)
      unfold Region.ready
      rw [List.filter_eq_nil_iff] at h0 ⊢
      intro i hi
      have := h0 i hi
      simp only [Bool.not_eq_true] at this ⊢
      rw [this, Bool.false_and]
    exact ⟨hr, hfin listed a w hsz hst hS hsp hr⟩
  | succ fuel ih =>
    intro listed a w hsz hc hst hS hsp hun0 hcl
    refine ⟨hfin listed a w hsz hst hS hsp, fun i hi => ?_⟩
    unfold Region.ready at hi
    rw [List.mem_filter, List.mem_range] at hi
    obtain ⟨hilt, hi2⟩ := hi
    rw [Array.getElem?_eq_getElem hilt] at hi2
    simp only [Bool.and_eq_true, Option.map_some, Option.getD_some, Array.all_eq_true_iff_forall_mem] at hi2
    obtain ⟨hun, hdeps⟩ := hi2
    obtain ⟨d, hd, hdl⟩ := hdst' ops[i] (by simp)
    have hdi : dstOf ops i = some d := by unfold dstOf; rw [Array.getElem?_eq_getElem hilt]; exact hd
    have hthis := each.at_ i ops[i] (by simp [hilt])
    rw [Nat.zero_add] at hthis
    have hni : listed.getD i false = false := by
      have hl : listed.getD i true = false := by simpa using hun
      rw [Array.getD_eq_getD_getElem?, Array.getElem?_eq_getElem (by omega)] at hl ⊢
      simpa using hl
    have hold : ∀ t, (laterOf ops i).contains t = true → a.tmps.getD t undef = a0.tmps.getD t undef := fun t ht => by
      unfold laterOf at ht
      obtain ⟨o, ho, hot⟩ := List.mem_filterMap.1 (List.contains_iff_mem.1 ht)
      rw [List.mem_filter] at ho
      obtain ⟨j, hj, hje⟩ := List.mem_iff_getElem.1 ho.1
      have hj' : j < ops.size := by simpa using hj
      have hjo : ops[j]? = some o := by rw [Array.getElem?_eq_getElem hj', ← hje]; simp
      have hdj : dstOf ops j = some t := by unfold dstOf; rw [hjo]; exact hot
      refine hun0 j t hj' ?_ hdj
      rw [Bool.eq_false_iff]
      intro hlj
      obtain ⟨e, he, h2⟩ := Array.any_eq_true'.1 ho.2
      simp only [Bool.and_eq_true, beq_iff_eq] at h2
      have := hcl j o hlj hjo e he h2.1
      rw [h2.2, hni] at this
      cases this
    obtain ⟨hw, hwp⟩ := hthis a w ⟨hst, hold⟩ hS (fun t ht => by
      unfold waitsFor at ht
      obtain ⟨e, he, het⟩ := List.mem_filterMap.1 (List.contains_iff_mem.1 ht)
      rw [List.mem_filter] at he
      have := hdeps e (by simpa using he.1)
      rw [he.2] at this
      exact hsp e.on t (by simpa using this) het)
    unfold wpOp
    simp only [Array.getElem?_eq_getElem hilt, wants hw, if_true]
    refine .inl (Oper.wp_mono ?_ hwp)
    rintro a' w' ⟨v, rfl, hS', hb, hsp'⟩
    have hval : ((a.put (ops[i]).dst v).tmps.getD d undef) = v := by
      rw [hd]
      simp only [Act.put]
      rw [Array.getD_eq_getD_getElem?, Array.getElem?_setIfInBounds_self_of_lt (by rw [hst.size]; exact hdl)]
      rfl
    have hoth : ∀ t, t ≠ d → (a.put (ops[i]).dst v).tmps.getD t undef = a.tmps.getD t undef := fun t ht => by
      rw [hd]
      simp only [Act.put]
      rw [Array.getD_eq_getD_getElem?, Array.getD_eq_getD_getElem?, Array.getElem?_setIfInBounds_ne (fun h => ht h.symm)]
    have hset : ∀ j, j ≠ i → (listed.setIfInBounds i true).getD j false = listed.getD j false := fun j hji => by
      rw [Array.getD_eq_getD_getElem?, Array.getElem?_setIfInBounds_ne (fun h => hji h.symm), ← Array.getD_eq_getD_getElem?]
    have hseti : (listed.setIfInBounds i true).getD i false = true := by
      rw [Array.getD_eq_getD_getElem?, Array.getElem?_setIfInBounds_self_of_lt (by omega)]; rfl
    refine ih _ _ _ (by simp [hsz]) ?_ ⟨by rw [hd]; simp [Act.put, hst.size], by rw [hd]; simp [Act.put, hst.defers], fun t ht => ?_⟩ hS' (fun j dj hj hdj => ?_) (fun j dj hj hlj hdj => ?_) (fun j o hlj hjo e he hb2 => ?_)
    · have hl : listed.getD i true = false := by simpa using hun
      have := filter_lt (l := List.range ops.size) (p := fun j => !listed.getD j true) (q := fun j => !(listed.setIfInBounds i true).getD j true) (fun x hx => by
        by_cases hxi : i = x
        · subst hxi
          rw [Array.getD_eq_getD_getElem?, Array.getElem?_setIfInBounds_self_of_lt (by omega)] at hx
          simp at hx
        · rw [Array.getD_eq_getD_getElem?, Array.getElem?_setIfInBounds_ne hxi, ← Array.getD_eq_getD_getElem?] at hx
          exact hx) (i := i) (List.mem_range.2 hilt) (by simp [hl]) (by
          rw [Array.getD_eq_getD_getElem?, Array.getElem?_setIfInBounds_self_of_lt (by omega)]; simp)
      omega
    · rw [hoth t, hst.out t ht]
      rintro rfl
      have : (dstsOf ops).contains t = true := List.contains_iff_mem.2 (List.mem_of_getElem? (by rw [hget, hdi]))
      rw [this] at ht
      cases ht
    · by_cases hji : j = i
      · subst hji
        rw [hdi] at hdj
        injection hdj with hdj
        subst hdj
        rw [hval]
        exact hsp' d hd
      · have hne : dj ≠ d := fun e => hji (hinj j i d (e ▸ hdj) hdi)
        rw [hoth dj hne]
        refine (Sp dj).st _ _ _ (hsp j dj ?_ hdj) hb
        rw [Array.getD_eq_getD_getElem?, Array.getElem?_setIfInBounds_ne (fun h => hji h.symm), ← Array.getD_eq_getD_getElem?] at hj
        exact hj
    · have hji : j ≠ i := fun h => by rw [h, hseti] at hlj; cases hlj
      rw [hset j hji] at hlj
      rw [hoth dj (fun e => hji (hinj j i d (e ▸ hdj) hdi))]
      exact hun0 j dj hj hlj hdj
    · have hon : listed.getD e.on false = true := by
        by_cases hji : j = i
        · subst hji
          rw [Array.getElem?_eq_getElem hilt] at hjo
          injection hjo with hjo
          subst hjo
          have := hdeps e he
          rw [hb2] at this
          simpa using this
        · rw [hset j hji] at hlj
          exact hcl j o hlj hjo e he hb2
      by_cases hei : e.on = i
      · rw [hei]; exact hseti
      · rw [hset _ hei]; exact hon

theorem wp_region_specs {id : Nat} {a0 : Act} {w0 : World} (S : World → Prop) (Sp : List (Nat × Stb)) (hm : P.follows .mixedOrders = true) (hok : regOk ops a0.tmps.size = true) (hS : S w0.drew)
    (each : EachOp (OkOp P ops Q S (Stb.find Sp) a0) 0 ops.toList)
    (fin : ∀ a w, Stand ops a0 a → S w → (∀ t, (dstsOf ops).contains t = true → (Stb.find Sp t).p (a.tmps.getD t undef) w) → Q .normal a w) :
    (Code.region id ops true).wp P Q a0 w0 :=
  wp_region_any hm (wpAny_specs S (Stb.find Sp) a0 hok each fin _ _ _ _ (by simp) (by
    refine Nat.le_trans (List.length_filter_le _ _) (by simp)) ⟨rfl, rfl, fun _ _ => rfl⟩ hS (fun i d h => by
    exfalso
    rw [Array.getD_eq_getD_getElem?, Array.getElem?_replicate] at h
    split at h <;> simp at h) (fun _ _ _ _ _ => rfl) (fun j o h => by
    exfalso
    rw [Array.getD_eq_getD_getElem?, Array.getElem?_replicate] at h
    split at h <;> simp at h))
end

/-- what slots hold -/
def AllV (a : Act) : List (Nat × Value) → Prop
  | [] => True
  | (t, v) :: r => a.tmps.getD t undef = v ∧ AllV a r
theorem setAll_eq {b : Array Value} : ∀ (vals : List (Nat × Value)) (ts : Array Value), ts.size = b.size → (∀ p ∈ vals, b.getD p.1 undef = p.2) → (∀ t, (∀ p ∈ vals, p.1 ≠ t) → ts.getD t undef = b.getD t undef) →
    vals.foldl (fun ts p => ts.setIfInBounds p.1 p.2) ts = b
  | [], ts, hs, _, h => by
    apply Array.ext hs
    intro i h1 h2
    have := h i (by simp)
    rw [Array.getD_eq_getD_getElem?, Array.getD_eq_getD_getElem?, Array.getElem?_eq_getElem h1, Array.getElem?_eq_getElem h2] at this
    simpa using this
  | p :: r, ts, hs, hv, h => by
    rw [List.foldl_cons]
    refine setAll_eq r (ts.setIfInBounds p.1 p.2) (by simpa using hs) (fun q hq => hv q (List.mem_cons_of_mem _ hq)) fun t ht => ?_
    by_cases hpt : p.1 = t
    · subst hpt
      rw [hv p (by simp)]
      by_cases hlt : p.1 < ts.size
      · simp [Array.getD_eq_getD_getElem?, hlt]
      · have h1 := hv p (by simp)
        have e : b.getD p.1 undef = undef := by simp [Array.getD_eq_getD_getElem?, show b.size ≤ p.1 by omega]
        rw [e] at h1
        simp [Array.getD_eq_getD_getElem?, hlt, ← h1]
    · rw [← h t (fun q hq => by
        rcases List.mem_cons.1 hq with rfl | hq
        · exact hpt
        · exact ht q hq)]
      simp [Array.getD_eq_getD_getElem?, Array.getElem?_setIfInBounds_ne hpt]
theorem AllV.mem {a : Act} : ∀ {vals : List (Nat × Value)}, AllV a vals → ∀ p ∈ vals, a.tmps.getD p.1 undef = p.2
  | [], _, p, hp => by simp at hp
  | (t, v) :: r, h, p, hp => by
    rcases List.mem_cons.1 hp with rfl | hp
    · exact h.1
    · exact AllV.mem h.2 p hp
/-- the frame behind a region, written out -/
theorem Stand.frame {ops : Array Oper} {a0 a : Act} (h : Stand ops a0 a) (vals : List (Nat × Value)) (hd : ((dstsOf ops).all fun t => (vals.map Prod.fst).contains t) = true) (hv : AllV a vals) :
    a = { tmps := vals.foldl (fun ts p => ts.setIfInBounds p.1 p.2) a0.tmps, defers := a0.defers } := by
  have e := setAll_eq (b := a.tmps) vals a0.tmps h.size.symm hv.mem fun t ht => by
    refine (h.out t ?_).symm
    rw [Bool.eq_false_iff]
    intro hc
    have h1 := List.all_eq_true.1 hd t (by simpa using hc)
    obtain ⟨p, hp, rfl⟩ := List.mem_map.1 (show t ∈ vals.map Prod.fst by simpa using h1)
    exact ht p hp rfl
  cases a
  simp only [Act.mk.injEq]
  exact ⟨e.symm, h.defers⟩
end

/- Which tokens may be, by package lex: numbers and hints, whose tests are in an order that Go leaves open. -/
section
open Go.RowKit
set_option maxRecDepth 100000
end

/- What is written of tokens, by package lex: contracts. -/
section
open Go.RowKit
set_option maxRecDepth 100000

/-- a text with each byte q twice -/
def twiceF (q : UInt8) : List UInt8 → List UInt8
  | [] => []
  | b :: r => if b = q then q :: q :: twiceF q r else b :: twiceF q r

theorem twiceF_length (q : UInt8) : ∀ l, (twiceF q l).length ≤ 2 * l.length
  | [] => by simp [twiceF]
  | b :: r => by
    have := twiceF_length q r
    unfold twiceF
    split <;> simp <;> omega
theorem twiceF_take (q : UInt8) : ∀ (l : List UInt8) (k : Nat), (∀ j (h : j < l.length), j < k → l[j] ≠ q) → k ≤ l.length → twiceF q l = l.take k ++ twiceF q (l.drop k)
  | l, 0, _, _ => by simp
  | [], k + 1, _, h => by simp at h
  | b :: r, k + 1, h, hk => by
    have h0 : b ≠ q := h 0 (by simp) (by omega)
    have := twiceF_take q r k (fun j hj hjk => h (j + 1) (by simpa using hj) (by omega)) (by simpa using hk)
    rw [twiceF, if_neg h0, this]
    simp

theorem index_one (l : List UInt8) (q : UInt8) : (Lib.index l [q] = -1 ∧ (∀ b ∈ l, b ≠ q)) ∨ ∃ i : Nat, ∃ h : i < l.length, Lib.index l [q] = i ∧ l[i] = q ∧ ∀ j (hj : j < l.length), j < i → l[j] ≠ q := by
  induction l with
  | nil => exact .inl ⟨rfl, fun b h => by simp at h⟩
  | cons b r ih =>
    by_cases hb : b = q
    · subst hb
      refine .inr ⟨0, by simp, ?_, rfl, fun j _ hj => by omega⟩
      unfold Lib.index
      rw [if_pos (by simp)]
      rfl
    · have hp : [q].isPrefixOf (b :: r) = false := by
        rw [List.isPrefixOf]
        simp
        exact fun h => hb h.symm
      rcases ih with ⟨h1, h2⟩ | ⟨i, hi, h1, h2, h3⟩
      · refine .inl ⟨?_, fun c hc => ?_⟩
        · unfold Lib.index
          rw [hp, h1]
          rfl
        · rcases List.mem_cons.1 hc with rfl | hc
          · exact hb
          · exact h2 c hc
      · refine .inr ⟨i + 1, by simpa using hi, ?_, by simpa using h2, fun j hj hji => ?_⟩
        · unfold Lib.index
          rw [hp, h1]
          have : ((i : Int) == -1) = false := by rw [beq_eq_false_iff_ne]; omega
          simp [this]
        · cases j with
          | zero => exact hb
          | succ j => exact h3 j (by simpa using hj) (by omega)

theorem replaceK_none (q : UInt8) (k : Nat) (l : List UInt8) (h : Lib.index l [q] = -1) : Lib.replaceK [q] [q, q] k l = l := by
  cases k with
  | zero => rfl
  | succ k => rw [Lib.replaceK, if_pos (beq_iff_eq.2 h)]
theorem replaceK_twice (q : UInt8) : ∀ (n : Nat) (l : List UInt8) (k : Nat), l.length ≤ n → Lib.count l [q] ≤ k → Lib.replaceK [q] [q, q] k l = twiceF q l := by
  intro n
  induction n with
  | zero =>
    intro l k hl _
    obtain rfl : l = [] := List.eq_nil_of_length_eq_zero (by omega)
    rw [replaceK_none q k [] rfl]
    rfl
  | succ n ih =>
    intro l k hl hc
    rcases index_one l q with ⟨h1, h2⟩ | ⟨i, hi, h1, h2, h3⟩
    · rw [replaceK_none q k l h1, twiceF_take q l l.length (fun j hj _ => h2 _ (List.getElem_mem hj)) (Nat.le_refl _)]
      simp [twiceF]
    · rw [Lib.count_hit (by simp) h1] at hc
      obtain ⟨k', rfl⟩ : ∃ k', k = k' + 1 := ⟨k - 1, by omega⟩
      rw [Lib.replaceK_hit _ _ _ _ _ h1, ih (l.drop (i + [q].length)) k' (by rw [List.length_drop]; simp; omega) (by omega)]
      rw [twiceF_take q l i h3 (by omega), List.drop_eq_getElem_cons hi, h2]
      simp [twiceF]
theorem replaceAll_twice (q : UInt8) (l : List UInt8) : Lib.replaceAll l [q] [q, q] = twiceF q l := by
  unfold Lib.replaceAll Lib.replace
  rw [if_neg (by simp)]
  unfold Lib.replaceNum
  rw [if_pos (.inl (by decide))]
  exact replaceK_twice q l.length l _ (Nat.le_refl _) (Nat.le_refl _)

theorem twice_s (q : UInt8) (s old new : ByteArray) (w : World) (hL : Lw w) (hs : s.size ≤ 1000000) (ho : old.data.toList = [q]) (hn : new.data.toList = [q, q]) :
    Calls Tryz.prog 115 #[.string s, .string old, .string new] w fun e w' => ∃ r : ByteArray, e = .returned (.string r) ∧ r.data.toList = twiceF q s.data.toList ∧ Below w.heap.size w w' := by
  obtain ⟨m, hm⟩ := hL
  have o1 : old.size = 1 := by rw [← text_len, ho]; rfl
  have n2 : new.size = 2 := by rw [← text_len, hn]; rfl
  have hc := Lib.countB_mul_le old (by omega) s.size s (Nat.le_refl _)
  rw [o1, Nat.mul_one] at hc
  refine (Tryz.strings_ReplaceAll s old new m w (by omega) hm (by omega) (by rw [n2]; omega)).mono fun e w' ⟨he, hb⟩ => ⟨_, he, ?_, hb⟩
  rw [ho, hn, replaceAll_twice]

theorem text_add (a b : ByteArray) : (a ++ b).data.toList = a.data.toList ++ b.data.toList := by simp

def quoteF (q : UInt8) (l : List UInt8) : List UInt8 := q :: twiceF q l ++ [q]

set_option maxHeartbeats 400000 in
theorem quote_ok (q : UInt8) (s mark : ByteArray) (hq : mark.data.toList = [q]) (w : World) (hL : Lw w) (hs : s.size ≤ 1000000) :
    Calls Tryz.prog 100 #[.string s, .string mark] w fun e w' => ∃ r : ByteArray, e = .returned (.string r) ∧ r.data.toList = quoteF q s.data.toList ∧ Below w.heap.size w w' := by
  have hms : mark.size = 1 := by rw [← text_len, hq]; rfl
  go_enter Tryz.func100, Tryz.ntmps100
  go_wp2_with fail
  refine (twice_s q s mark (mark ++ mark) w hL hs hq (by rw [text_add, hq]; rfl)).mono ?_
  rintro e w1 ⟨r, rfl, hr, k1⟩
  have hrs : r.size ≤ 2000000 := by
    have h1 := twiceF_length q s.data.toList
    have h2 := text_len s
    have h3 := text_len r
    rw [hr] at h3
    omega
  have hms2 : (mark ++ r).size ≤ 2000001 := by rw [ByteArray.size_append]; omega
  go_wp2_with fail
  go_ret
  exact ⟨_, rfl, by rw [text_add, text_add, hr, hq]; rfl, k1⟩

def writtenF (k : Int) (l : List UInt8) : List UInt8 :=
  if k = 1 ∨ k = 4 ∨ k = 6 then l
  else if k = 2 then quoteF 34 l
  else if k = 3 then quoteF 39 l
  else if k = 5 then [47, 42, 43, 32] ++ l ++ [32] ++ [42, 47]
  else []
theorem writtenF_length (k : Int) (l : List UInt8) : (writtenF k l).length ≤ 2 * l.length + 7 := by
  have h1 := twiceF_length 34 l
  have h2 := twiceF_length 39 l
  unfold writtenF quoteF
  split
  · omega
  split
  · simp; omega
  split
  · simp; omega
  split
  · simp; omega
  · simp

set_option maxHeartbeats 1000000 in
theorem written_ok (k : Int) (s : ByteArray) (w : World) (hL : Lw w) (hs : s.size ≤ 1000000) :
    Calls Tryz.prog 75 #[.agg #[.int .i64 k, .string s]] w fun e w' => ∃ r : ByteArray, e = .returned (.string r) ∧ r.data.toList = writtenF k s.data.toList ∧ Below w.heap.size w w' := by
  have kw := kp_new w (.cells #[.int .i64 k, .string s] 89)
  have hL1 := hL.next kw
  by_cases h1 : k = 1 ∨ k = 4 ∨ k = 6
  · have hF : writtenF k s.data.toList = s.data.toList := by unfold writtenF; rw [if_pos h1]
    have HF := Lib.hid hF
    clear hF
    rcases h1 with rfl | rfl | rfl
    all_goals
      go_enter Tryz.func75, Tryz.ntmps75
      go_wp2_with fail
      go_ret
      exact ⟨s, rfl, HF.out.symm, kw⟩
  by_cases h2 : k = 2
  · subst h2
    have hQ := Lib.hid (quote_ok 34 s ⟨#[34]⟩ rfl _ hL1 hs)
    go_enter Tryz.func75, Tryz.ntmps75
    go_wp2_with fail
    refine hQ.out.mono ?_
    rintro e w1 ⟨r, rfl, hr, k1⟩
    go_wp2_with fail
    go_ret
    exact ⟨r, rfl, hr, kp_trans kw k1⟩
  by_cases h3 : k = 3
  · subst h3
    have hQ := Lib.hid (quote_ok 39 s ⟨#[39]⟩ rfl _ hL1 hs)
    go_enter Tryz.func75, Tryz.ntmps75
    go_wp2_with fail
    refine hQ.out.mono ?_
    rintro e w1 ⟨r, rfl, hr, k1⟩
    go_wp2_with fail
    go_ret
    exact ⟨r, rfl, hr, kp_trans kw k1⟩
  by_cases h5 : k = 5
  · subst h5
    have z1 : (⟨#[47, 42, 43, 32]⟩ ++ s : ByteArray).size ≤ 1000004 := by rw [ByteArray.size_append]; have : (⟨#[47, 42, 43, 32]⟩ : ByteArray).size = 4 := rfl; omega
    have z2 : (⟨#[47, 42, 43, 32]⟩ ++ s ++ ⟨#[32]⟩ : ByteArray).size ≤ 1000005 := by rw [ByteArray.size_append]; have : (⟨#[32]⟩ : ByteArray).size = 1 := rfl; omega
    have z3 : (⟨#[47, 42, 43, 32]⟩ : ByteArray).size = 4 := rfl
    have z4 : (⟨#[32]⟩ : ByteArray).size = 1 := rfl
    have z5 : (⟨#[42, 47]⟩ : ByteArray).size = 2 := rfl
    go_enter Tryz.func75, Tryz.ntmps75
    go_wp2_with fail
    go_ret
    exact ⟨_, rfl, by rw [text_add, text_add, text_add]; rfl, kw⟩
  · have hF : writtenF k s.data.toList = [] := by unfold writtenF; rw [if_neg h1, if_neg h2, if_neg h3, if_neg h5]
    have HF := Lib.hid hF
    have e1 : (k == 1) = false := by simp only [beq_eq_false_iff_ne, ne_eq]; omega
    have e2 : (k == 2) = false := by simp only [beq_eq_false_iff_ne, ne_eq]; omega
    have e3 : (k == 3) = false := by simp only [beq_eq_false_iff_ne, ne_eq]; omega
    have e4 : (k == 4) = false := by simp only [beq_eq_false_iff_ne, ne_eq]; omega
    have e5 : (k == 5) = false := by simp only [beq_eq_false_iff_ne, ne_eq]; omega
    have e6 : (k == 6) = false := by simp only [beq_eq_false_iff_ne, ne_eq]; omega
    clear hF h1 h2 h3 h5
    go_enter Tryz.func75, Tryz.ntmps75
    go_wp2_with fail
    go_ret
    exact ⟨⟨#[]⟩, rfl, HF.out.symm, kw⟩
end

/- The document's layer 4: what stands between quotes, words, texts with quotes twice: contracts. -/
section
open Go.RowKit
set_option maxRecDepth 100000

theorem byteinfo : (Tryz.prog.info? 5).map (fun i => (i.zero, i.size, i.bytes)) = some (some (.int .u8 0), 1, 1) := by kernel_rfl
theorem Ow.push {w : World} {base : Nat} {v : Value} {n : Nat} {bs : List UInt8} {b : UInt8} (h : w.ownsRow base 5 1 v (n + 1) (bvs bs ++ [.int .u8 (b.toNat : Int)])) : ∃ A c, v = .slice A (n + 1) c ∧ Ow w base A (n + 1) c (bs ++ [b]) := by
  rw [show [Value.int .u8 (b.toNat : Int)] = bvs [b] from rfl, ← bvs_append] at h
  exact Ow.mk' h
theorem Ow.empty (w : World) : Ow (w.alloc (.cells #[] 5)) w.heap.size (some ⟨w.heap.size, 0, none⟩) 0 0 [] := by
  have := Ow.new w w.heap.size (Nat.le_refl _) [] (by simp)
  exact this
theorem Ow.text {w : World} {base : Nat} {A : Option Addr} {l c : Nat} {bs : List UInt8} (h : Ow w base A l c bs) : (convert 120 9 (.slice A l c)).run Tryz.prog w = .ok (.string ⟨bs.toArray⟩) w :=
  run_text (P := Tryz.prog) h.sl 120 9 5 Tryz.underlying120 Tryz.underlying5 Tryz.underlying9

set_option maxHeartbeats 1000000 in
theorem word_ok (s : ByteArray) (w : World) (hs : s.size ≤ 140737488351232) : Calls Tryz.prog 83 #[.string s] w fun e w' => ∃ r : ByteArray, e = .returned (.string r) ∧ r.data.toList = greatF s.data.toList ∧ Below w.heap.size w w' := by
  obtain ⟨i0, hi, hz0, hz1, hz2⟩ := info_parts byteinfo
  have hlen := Lib.hid (text_len s)
  go_enter Tryz.func83, Tryz.ntmps83
  go_wp2
  go_loopw [3, 4] (fun o v wr => ∃ (k : Nat) (A : Option Addr) (c : Nat), v = .int .i64 k ∧ k ≤ s.size ∧ o = .slice A k c ∧ Ow wr w.heap.size A k c ((s.data.toList.take k).map upF) ∧ Below w.heap.size w wr) (fun _ v _ => s.size - (intOf v).toNat)
  case atStart => exact ⟨0, _, _, rfl, Nat.zero_le _, rfl, Ow.empty w, kp_new _ _⟩
  case round =>
    obtain ⟨k, A, c, rfl, hk, rfl, ho, kw⟩ := hrel
    by_cases hlt : k < s.size
    · have hkl : k < s.data.toList.length := by rw [hlen.out]; exact hlt
      have hb := text_at s k hlt
      have hnext := Lib.hid (drop_take_map upF s.data.toList k hkl)
      generalize s.data.toList[k] = b at hb hnext
      have hsw := kw.size
      by_cases hlow : 97 ≤ b.toNat ∧ b.toNat ≤ 122
      · obtain ⟨h1, h2⟩ := hlow
        have hu : (b.toNat : Int) - 32 = ((upF b).toNat : Int) := by rw [up_byte b h1 h2]; omega
        have HU := Lib.hid hu
        clear hu
        go_wp2_with (at_builtin; refine wpList_append_rd rfl _ _ _ rfl w.heap.size 5 i0 _ 1 Tryz.underlying120 hi hz0 hz1 hz2 rfl _ k _ rfl (ho.own.alloc _) (wr.heap.size + 1) _ _ _ [_] rfl rfl (Rd.new _ _ _) (by simp [Value.oneCell']) (by unfold maxLen; omega) (by omega) (by simp; omega) ?_; intro v2 w2 hown2 hg2; rw [HU.out] at hown2; obtain ⟨A2, c2, rfl, ho2⟩ := Ow.push hown2)
        go_roundw
        case rel => exact ⟨k + 1, A2, c2, by go_num, by omega, rfl, by rw [hnext.out]; exact ho2, (kp_alloc kw _).trans (below_own (ho.own.alloc _) hg2 (by simp; omega))⟩
        case measure => simp [intOf]; omega
      · have hsame := up_same b hlow
        have HS := Lib.hid hsame
        have hlow2 : (¬ 97 ≤ b.toNat) ∨ (97 ≤ b.toNat ∧ ¬ b.toNat ≤ 122) := by omega
        clear hsame hlow
        rcases hlow2 with h1 | ⟨h1, h2⟩
        all_goals
          go_wp2_with (at_builtin; refine wpList_append_rd rfl _ _ _ rfl w.heap.size 5 i0 _ 1 Tryz.underlying120 hi hz0 hz1 hz2 rfl _ k _ rfl (ho.own.alloc _) (wr.heap.size + 1) _ _ _ [_] rfl rfl (Rd.new _ _ _) (by simp [Value.oneCell']) (by unfold maxLen; omega) (by omega) (by simp; omega) ?_; intro v2 w2 hown2 hg2; obtain ⟨A2, c2, rfl, ho2⟩ := Ow.push hown2)
          go_roundw
          case rel => exact ⟨k + 1, A2, c2, by go_num, by omega, rfl, by rw [hnext.out, HS.out]; exact ho2, (kp_alloc kw _).trans (below_own (ho.own.alloc _) hg2 (by simp; omega))⟩
          case measure => simp [intOf]; omega
    · obtain rfl : k = s.size := by omega
      rw [List.take_of_length_le (by rw [hlen.out]; exact Nat.le_refl _)] at ho
      have hT := ho.text
      go_wp2_with fail
      go_ret
      exact ⟨_, rfl, by simp [greatF], kw⟩

theorem twiceF_next (q : UInt8) (l : List UInt8) (k : Nat) (h : k < l.length) : twiceF q (l.take (k + 1)) = twiceF q (l.take k) ++ (if l[k] = q then [q, q] else [l[k]]) := by
  induction l generalizing k with
  | nil => simp at h
  | cons b r ih =>
    cases k with
    | zero => simp [twiceF]
    | succ k =>
      have := ih k (by simpa using h)
      simp only [List.take_succ_cons, twiceF, List.getElem_cons_succ]
      split <;> simp [this]
end

/- The document's layer 4: what stands between quotes; remarks and blanks: contracts. -/
section
open Go.RowKit
set_option maxRecDepth 100000

/-- what stands between quotes, as a call answers it -/
def AnsB (x : Option (List UInt8 × Nat)) (i : Nat) (r : ByteArray) (n : Int) : Prop :=
  match x with
  | none => n = -1
  | some (t, m) => r.data.toList = t ∧ n = (i + 1 + m : Nat)

set_option maxHeartbeats 2000000 in
theorem between_ok (s : ByteArray) (i : Nat) (c : UInt8) (rest : List UInt8) (w : World) (hs : s.size ≤ 140737488351232) (hl : s.data.toList.drop i = c :: rest) :
    Calls Tryz.prog 84 #[.string s, .int .i64 (i : Int)] w fun e w' => ∃ r n, e = .returned (.tuple #[.string r, .int .i64 n]) ∧ AnsB (quotedF c rest) i r n ∧ Below w.heap.size w w' := by
  obtain ⟨i0, hi, hz0, hz1, hz2⟩ := info_parts byteinfo
  have hlen := Lib.hid (text_len s)
  have hil : i < s.size := by
    rcases Nat.lt_or_ge i s.size with h | h
    · exact h
    · rw [List.drop_eq_nil_of_le (by rw [text_len]; exact h)] at hl; cases hl
  have hc0 : s[i] = c := by
    rw [text_at s i hil]
    have e0 : (s.data.toList.drop i)[0]? = some c := by rw [hl]; rfl
    rw [List.getElem?_drop] at e0
    exact (List.getElem?_eq_some_iff.1 e0).2
  have hx : rest = s.data.toList.drop (i + 1) := by
    rw [← List.drop_drop, hl]; rfl
  subst hx
  generalize hR0 : quotedF c (s.data.toList.drop (i + 1)) = R
  have HR := Lib.hid hR0
  clear hR0 hl
  go_enter Tryz.func84, Tryz.ntmps84
  go_wp2
  go_loopw [1, 7] (fun v o wr => ∃ (k n : Nat) (A : Option Addr) (cp : Nat) (done : List UInt8), v = .int .i64 k ∧ i + 1 ≤ k ∧ k ≤ s.size ∧ n ≤ k ∧ o = .slice A n cp ∧ Ow wr w.heap.size A n cp done ∧ Hid (R = (quotedF c (s.data.toList.drop k)).map fun x => (done ++ x.1, x.2 + k - (i + 1))) ∧ Below w.heap.size w wr) (fun v _ _ => s.size - (intOf v).toNat)
  case atStart => exact ⟨i + 1, 0, _, _, [], by go_num, Nat.le_refl _, by omega, by omega, rfl, Ow.empty w, Lib.hid (by rw [HR.out]; cases R <;> simp), kp_new _ _⟩
  case round =>
    obtain ⟨k, n, A, cp, done, rfl, hk1, hks, hn, rfl, ho, hx, kw⟩ := hrel
    clear HR
    have hsw := kw.size
    by_cases hlt : k < s.size
    · have hkl : k < s.data.toList.length := by rw [hlen.out]; exact hlt
      have hb := text_at s k hlt
      have hd : s.data.toList.drop k = s.data.toList[k] :: s.data.toList.drop (k + 1) := List.drop_eq_getElem_cons hkl
      rw [hd] at hx
      generalize s.data.toList[k] = b at hb hd hx
      clear hd
      by_cases hbc : b = c
      · subst hbc
        by_cases h1 : k + 1 < s.size
        · have hb1 := text_at s (k + 1) h1
          have hd1 : s.data.toList.drop (k + 1) = s.data.toList[k + 1]'(by rw [hlen.out]; exact h1) :: s.data.toList.drop (k + 1 + 1) := List.drop_eq_getElem_cons _
          rw [hd1] at hx
          generalize s.data.toList[k + 1]'(by rw [hlen.out]; exact h1) = d at hb1 hd1 hx
          clear hd1
          by_cases hdb : d = b
          · subst hdb
            rw [quotedF_twice] at hx
            have hx2 : Hid (R = (quotedF d (s.data.toList.drop (k + 2))).map fun x => (done ++ [d] ++ x.1, x.2 + (k + 2) - (i + 1))) := Lib.hid (by
              rw [hx.out]
              cases quotedF d (s.data.toList.drop (k + 2)) <;> simp
              try omega)
            clear hx
            go_wp2_with (first
              | (at_builtin; refine wpList_append_rd rfl _ _ _ rfl w.heap.size 5 i0 _ 1 Tryz.underlying120 hi hz0 hz1 hz2 rfl _ n _ rfl (ho.own.alloc _) (wr.heap.size + 1) _ _ _ [_] rfl rfl (Rd.new _ _ _) (by simp [Value.oneCell']) (by unfold maxLen; omega) (by omega) (by simp; omega) ?_; intro v2 w2 hown2 hg2; obtain ⟨A2, c2, rfl, ho2⟩ := Ow.push hown2; have kw2 := (kp_alloc kw (.cells #[.int .u8 _] 5)).trans (below_own (ho.own.alloc _) hg2 (by simp; omega)); have hsw2 := kw2.size))
            go_roundw
            case rel => exact ⟨k + 2, n + 1, A2, c2, done ++ [d], by go_num, by omega, by omega, by omega, rfl, ho2, hx2, kw2⟩
            case measure => simp [intOf]; omega
          · have hR : R = some (done, k - i) := by rw [hx.out, quotedF_ends (by simpa using hdb)]; simp; omega
            subst hR
            have hdb2 := byte_eq_no hdb
            have hT := ho.text
            clear hx
            go_wp2_with fail
            go_ret2
            exact ⟨_, _, rfl, ⟨by simp, by omega⟩, kw⟩
        · have hR : R = some (done, k - i) := by rw [hx.out, List.drop_eq_nil_of_le (by rw [hlen.out]; omega), quotedF_ends (by simp)]; simp; omega
          subst hR
          have hT := ho.text
          clear hx
          go_wp2_with fail
          go_ret2
          exact ⟨_, _, rfl, ⟨by simp, by omega⟩, kw⟩
      · rw [quotedF_other hbc] at hx
        have hx2 : Hid (R = (quotedF c (s.data.toList.drop (k + 1))).map fun x => (done ++ [b] ++ x.1, x.2 + (k + 1) - (i + 1))) := Lib.hid (by
          rw [hx.out]
          cases quotedF c (s.data.toList.drop (k + 1)) <;> simp
          try omega)
        have hbc2 := byte_eq_no hbc
        clear hx
        go_wp2_with (first
          | (at_builtin; refine wpList_append_rd rfl _ _ _ rfl w.heap.size 5 i0 _ 1 Tryz.underlying120 hi hz0 hz1 hz2 rfl _ n _ rfl (ho.own.alloc _) (wr.heap.size + 1) _ _ _ [_] rfl rfl (Rd.new _ _ _) (by simp [Value.oneCell']) (by unfold maxLen; omega) (by omega) (by simp; omega) ?_; intro v2 w2 hown2 hg2; obtain ⟨A2, c2, rfl, ho2⟩ := Ow.push hown2; have kw2 := (kp_alloc kw (.cells #[.int .u8 _] 5)).trans (below_own (ho.own.alloc _) hg2 (by simp; omega)); have hsw2 := kw2.size))
        go_roundw
        case rel => exact ⟨k + 1, n + 1, A2, c2, done ++ [b], by go_num, by omega, by omega, by omega, rfl, ho2, hx2, kw2⟩
        case measure => simp [intOf]; omega
    · have hR : R = none := by rw [hx.out, List.drop_eq_nil_of_le (by rw [hlen.out]; omega)]; rfl
      subst hR
      clear hx
      go_wp2_with fail
      go_ret2
      exact ⟨⟨#[]⟩, -1, rfl, rfl, kw⟩

/-- a remark, or a blank: how many bytes; below 0: it doesn't end -/
def skipF : List UInt8 → Int
  | [] => 0
  | c :: r =>
    if blankF c then 1
    else if isRemarkF (c :: r) then (if closedF (c :: r) 2 = 0 then -1 else closedF (c :: r) 2)
    else if isLineF (c :: r) then lineF (c :: r)
    else 0
def skipA (l : List UInt8) (i : Nat) : Int := if skipF (l.drop i) < 0 then -1 else (i : Int) + skipF (l.drop i)

theorem index_byte (l : List UInt8) (q : UInt8) : Lib.index l [q] = Lib.indexByte l q := by
  induction l with
  | nil => rfl
  | cons b r ih =>
    unfold Lib.index Lib.indexByte
    rw [ih]
    by_cases h : b = q
    · subst h; simp
    · have h1 : ([q].isPrefixOf (b :: r)) = false := by
        rw [List.isPrefixOf]
        simp
        exact fun e => h e.symm
      have h2 : (b == q) = false := by simpa using h
      rw [h1, h2]

theorem beg_hash (c : UInt8) (r : List UInt8) : begF [35] (c :: r) = decide (c.toNat = 35) := by
  unfold begF Lib.hasPrefix
  rw [List.isPrefixOf, Bool.eq_iff_iff]
  simp
  constructor
  · rintro rfl; rfl
  · intro h
    exact UInt8.toNat_inj.1 (by rw [h]; rfl)

set_option maxHeartbeats 2000000 in
theorem skip_ok (s : ByteArray) (i : Nat) (c : UInt8) (r : List UInt8) (w : World) (hs : s.size ≤ 140737488351232) (hl : s.data.toList.drop i = c :: r) :
    Calls Tryz.prog 41 #[.string s, .int .i64 (i : Int)] w fun e w' => e = .returned (.int .i64 (skipA s.data.toList i)) ∧ Below w.heap.size w w' := by
  have hil : i < s.size := by
    rcases Nat.lt_or_ge i s.size with h | h
    · exact h
    · rw [List.drop_eq_nil_of_le (by rw [text_len]; exact h)] at hl; cases hl
  have hc0 : s[i] = c := by
    rw [text_at s i hil]
    have e0 : (s.data.toList.drop i)[0]? = some c := by rw [hl]; rfl
    rw [List.getElem?_drop] at e0
    exact (List.getElem?_eq_some_iff.1 e0).2
  have hrl : r.length + 1 = s.size - i := by
    have := congrArg List.length hl
    rw [List.length_drop, text_len] at this
    simpa using this.symm
  have hA : skipA s.data.toList i = if skipF (c :: r) < 0 then -1 else (i : Int) + skipF (c :: r) := by unfold skipA; rw [hl]
  have HL := Lib.hid hl
  have H1 := fun u => rblank_ok c u
  by_cases h1 : blankF c = true
  · have hF : skipA s.data.toList i = (i : Int) + 1 := by rw [hA, skipF, if_pos h1]; rfl
    rw [h1] at H1
    have H1' := Lib.hid H1
    have HF := Lib.hid hF
    clear H1 hF hA hl h1
    go_enter Tryz.func41, Tryz.ntmps41
    go_wp2_with fail
    refine (H1'.out _).mono ?_
    rintro e w1 ⟨rfl, rfl⟩
    go_wp2_with fail
    go_ret
    exact ⟨by rw [HF.out]; rfl, Below.refl _ _⟩
  have h1f : blankF c = false := by simpa using h1
  rw [h1f] at H1
  have H1' := Lib.hid H1
  clear H1
  have hP1 := fun u => rat_ok s ⟨#[47, 42]⟩ i u (by omega) hs (by decide) (by decide)
  have hP2 := fun u => rat_ok s ⟨#[47, 42, 43]⟩ i u (by omega) hs (by decide) (by decide)
  have hP3 := fun u => rat_ok s ⟨#[45, 45]⟩ i u (by omega) hs (by decide) (by decide)
  have hP4 := fun u => rat_ok s ⟨#[35]⟩ i u (by omega) hs (by decide) (by decide)
  rw [show (⟨#[47, 42]⟩ : ByteArray).data.toList = [47, 42] from rfl, hl] at hP1
  rw [show (⟨#[47, 42, 43]⟩ : ByteArray).data.toList = [47, 42, 43] from rfl, hl] at hP2
  rw [show (⟨#[45, 45]⟩ : ByteArray).data.toList = [45, 45] from rfl, hl] at hP3
  rw [show (⟨#[35]⟩ : ByteArray).data.toList = [35] from rfl, hl, beg_hash] at hP4
  by_cases h2 : isRemarkF (c :: r) = true
  · have h2a : begF [47, 42] (c :: r) = true ∧ begF [47, 42, 43] (c :: r) = false := by
      unfold isRemarkF at h2
      simpa using h2
    have h2l : 2 ≤ s.size - i := by
      have := (List.isPrefixOf_iff_prefix.1 h2a.1).length_le
      simp at this
      omega
    have hfi := rfind_ok s ⟨#[42, 47]⟩ (i + 2) w (by omega) hs (by decide) (by decide)
    rw [show (⟨#[42, 47]⟩ : ByteArray).data.toList = ends2 from rfl] at hfi
    rw [h2a.1] at hP1
    rw [h2a.2] at hP2
    have hge := Lib.index_ge (s.data.toList.drop (i + 2)) ends2
    have hroom : 0 ≤ Lib.index (s.data.toList.drop (i + 2)) ends2 → (Lib.index (s.data.toList.drop (i + 2)) ends2).toNat + 2 ≤ s.size - (i + 2) := fun h => by
      have := index_room h (by decide)
      rw [List.length_drop, text_len] at this
      exact this
    have hcl : closedF (c :: r) 2 = if Lib.index (s.data.toList.drop (i + 2)) ends2 < 0 then 0 else 2 + (Lib.index (s.data.toList.drop (i + 2)) ends2).toNat + 2 := by
      unfold closedF
      rw [← hl, List.drop_drop]
    have hff : findF s.data.toList ends2 (i + 2) = if Lib.index (s.data.toList.drop (i + 2)) ends2 < 0 then -1 else ((i + 2 : Nat) : Int) + Lib.index (s.data.toList.drop (i + 2)) ends2 := rfl
    have hsk : skipF (c :: r) = if closedF (c :: r) 2 = 0 then -1 else (closedF (c :: r) 2 : Int) := by rw [skipF, if_neg h1, if_pos h2]
    rw [hsk, hcl] at hA
    rw [hff] at hfi
    generalize Lib.index (s.data.toList.drop (i + 2)) ends2 = x at hge hroom hA hfi
    by_cases hx : x < 0
    · rw [if_pos hx] at hA hfi
      have HA := Lib.hid hA
      have HP1 := Lib.hid hP1
      have HP2 := Lib.hid hP2
      have HFi := Lib.hid hfi
      clear hA hP1 hP2 hP3 hP4 hfi hsk hcl hff h2 h2a h1 h1f hl
      go_enter Tryz.func41, Tryz.ntmps41
      go_wp2_with fail
      refine (H1'.out _).mono ?_
      rintro e w1 ⟨rfl, rfl⟩
      go_wp2_with fail
      refine (HP1.out _).mono ?_
      rintro e w1 ⟨rfl, rfl⟩
      go_wp2_with fail
      refine (HP2.out _).mono ?_
      rintro e w1 ⟨rfl, rfl⟩
      go_wp2_with fail
      refine HFi.out.mono ?_
      rintro e w1 ⟨rfl, rfl⟩
      go_wp2_with fail
      go_ret
      exact ⟨by rw [HA.out]; rfl, Below.refl _ _⟩
    · rw [if_neg hx] at hA hfi
      obtain ⟨m, rfl⟩ : ∃ m : Nat, x = m := ⟨x.toNat, by omega⟩
      have hr := hroom (by omega)
      rw [Int.toNat_natCast] at hr hA
      have hA2 : skipA s.data.toList i = ((i + 2 + m + 2 : Nat) : Int) := by
        rw [hA, if_neg (by omega), if_neg (by omega)]
        omega
      have HA := Lib.hid hA2
      have HP1 := Lib.hid hP1
      have HP2 := Lib.hid hP2
      have HFi := Lib.hid hfi
      clear hA hA2 hP1 hP2 hP3 hP4 hfi hsk hcl hff h2 h2a h1 h1f hl
      go_enter Tryz.func41, Tryz.ntmps41
      go_wp2_with fail
      refine (H1'.out _).mono ?_
      rintro e w1 ⟨rfl, rfl⟩
      go_wp2_with fail
      refine (HP1.out _).mono ?_
      rintro e w1 ⟨rfl, rfl⟩
      go_wp2_with fail
      refine (HP2.out _).mono ?_
      rintro e w1 ⟨rfl, rfl⟩
      go_wp2_with fail
      refine HFi.out.mono ?_
      rintro e w1 ⟨rfl, rfl⟩
      go_wp2_with fail
      go_ret
      exact ⟨by rw [HA.out]; simp, Below.refl _ _⟩
  have h2f : isRemarkF (c :: r) = false := by simpa using h2
  have hA3 : skipA s.data.toList i = if isLineF (c :: r) then (i : Int) + lineF (c :: r) else (i : Int) := by
    rw [hA, skipF, if_neg h1, if_neg h2]
    split
    · rw [if_neg (by omega)]
    · simp
  have hrem : isRemarkF (c :: r) = (begF [47, 42] (c :: r) && !begF [47, 42, 43] (c :: r)) := rfl
  rw [h2f] at hrem
  have hline : isLineF (c :: r) = (decide (c.toNat = 35) || begF [45, 45] (c :: r)) := rfl
  have hfi := fun u t (ht : t.data.toList = [10]) => rfind_ok s t i u (by omega) hs (by rw [← text_len, ht]; decide) (by rw [← text_len, ht]; decide)
  have hlf : lineF (c :: r) = if Lib.indexByte (c :: r) 10 < 0 then s.size - i else (Lib.indexByte (c :: r) 10).toNat := by unfold lineF; rw [List.length_cons, hrl]
  have hff : findF s.data.toList [10] i = if Lib.indexByte (c :: r) 10 < 0 then -1 else (i : Int) + Lib.indexByte (c :: r) 10 := by unfold findF; rw [hl, index_byte]
  have hge := indexByte_lt.indexByte_ge1 (c :: r) 10
  have hroom := fun h => indexByte_lt (l := c :: r) (c := 10) h
  rw [List.length_cons, hrl] at hroom
  rw [hlf] at hA3
  generalize Lib.indexByte (c :: r) 10 = x at hA3 hff hge hroom
  clear hA hlf h2 h2f h1 h1f
  generalize begF [47, 42] (c :: r) = a1 at hP1 hrem
  generalize begF [47, 42, 43] (c :: r) = a2 at hP2 hrem
  generalize begF [45, 45] (c :: r) = b1 at hP3 hline
  generalize decide (c.toNat = 35) = b2 at hP4 hline
  rw [hline] at hA3
  clear hline hl
  have HA := Lib.hid hA3
  have HP1 := Lib.hid hP1
  have HP2 := Lib.hid hP2
  have HP3 := Lib.hid hP3
  have HP4 := Lib.hid hP4
  have HFF := Lib.hid hff
  have HFi := Lib.hid hfi
  have hrem2 : a1 = false ∨ (a1 = true ∧ a2 = true) := by
    cases a1 <;> cases a2 <;> simp at hrem ⊢
  clear hA3 hP1 hP2 hP3 hP4 hff hfi hrem
  rcases hrem2 with rfl | ⟨rfl, rfl⟩
  focus
    go_enter Tryz.func41, Tryz.ntmps41
    go_wp2_with fail
    refine (H1'.out _).mono ?_
    rintro e w1 ⟨rfl, rfl⟩
    go_wp2_with fail
    refine (HP1.out _).mono ?_
    rintro e w1 ⟨rfl, rfl⟩
    go_wp2_with fail
  rotate_left
  focus
    go_enter Tryz.func41, Tryz.ntmps41
    go_wp2_with fail
    refine (H1'.out _).mono ?_
    rintro e w1 ⟨rfl, rfl⟩
    go_wp2_with fail
    refine (HP1.out _).mono ?_
    rintro e w1 ⟨rfl, rfl⟩
    go_wp2_with fail
    refine (HP2.out _).mono ?_
    rintro e w1 ⟨rfl, rfl⟩
    go_wp2_with fail
  all_goals
    refine (HP3.out _).mono ?_
    rintro e w1 ⟨rfl, rfl⟩
    have hT : (convert 120 9 (.slice (some ⟨w.heap.size, 0, none⟩) 1 1)).run Tryz.prog (w.alloc (.cells #[.int .u8 10] 5)) = .ok (.string ⟨#[10]⟩) (w.alloc (.cells #[.int .u8 10] 5)) := (Ow.new1 w w.heap.size (Nat.le_refl _) (.int .u8 10) 10 rfl).text
    have kw := kp_new w (.cells #[.int .u8 10] 5)
    have hF10 := HFi.out (w.alloc (.cells #[.int .u8 10] 5)) ⟨#[10]⟩ rfl
    rw [show (⟨#[10]⟩ : ByteArray).data.toList = [10] from rfl, HFF.out] at hF10
    have HF10 := Lib.hid hF10
    clear hF10
    by_cases hb : (b2 || b1) = true
    · rw [if_pos hb] at HA
      have hbb : b1 = true ∨ (b1 = false ∧ b2 = true) := by cases b1 <;> cases b2 <;> simp at hb ⊢
      by_cases hx : x < 0
      · rw [if_pos hx] at HA HF10
        have hsi : (i : Int) + ((s.size - i : Nat) : Int) = (s.size : Int) := by omega
        have HSI := Lib.hid hsi
        clear hsi
        rcases hbb with rfl | ⟨rfl, rfl⟩
        all_goals
          go_wp2_with (go_at_call 78; refine (HP4.out _).mono ?_; rintro e w1 ⟨rfl, rfl⟩)
          refine HF10.out.mono ?_
          rintro e w1 ⟨rfl, rfl⟩
          go_wp2_with fail
          go_ret
          exact ⟨by rw [HA.out, HSI.out]; rfl, kw⟩
      · rw [if_neg hx] at HA HF10
        obtain ⟨m, rfl⟩ : ∃ m : Nat, x = m := ⟨x.toNat, by omega⟩
        have hr := hroom (by omega)
        rw [Int.toNat_natCast] at hr
        have hxm : ¬ ((i : Int) + (m : Int)) < 0 := by omega
        rcases hbb with rfl | ⟨rfl, rfl⟩
        all_goals
          go_wp2_with (go_at_call 78; refine (HP4.out _).mono ?_; rintro e w1 ⟨rfl, rfl⟩)
          refine HF10.out.mono ?_
          rintro e w1 ⟨rfl, rfl⟩
          go_wp2_with fail
          go_ret
          exact ⟨by rw [HA.out]; rfl, kw⟩
    · rw [if_neg hb] at HA
      obtain ⟨rfl, rfl⟩ : b1 = false ∧ b2 = false := by cases b1 <;> cases b2 <;> simp at hb ⊢
      go_wp2_with fail
      refine (HP4.out _).mono ?_
      rintro e w1 ⟨rfl, rfl⟩
      go_wp2_with fail
      go_ret
      exact ⟨by rw [HA.out]; rfl, Below.refl _ _⟩
end

/- The document's layer 4: the token at a place: contract. -/
section
open Go.RowKit
set_option maxRecDepth 100000

/-- the token that a text begins with, in the document's order -/
def rtokF : List UInt8 → Option (Int × List UInt8 × Nat)
  | [] => none
  | c :: r =>
    if begF [47, 42, 43] (c :: r) then (hintF (c :: r)).map fun x => (5, x.1, x.2)
    else if letterF c then some (1, greatF ((c :: r).take (runF lodF (c :: r))), runF lodF (c :: r))
    else if digitF c then some (4, (c :: r).take (runF digitF (c :: r)), runF digitF (c :: r))
    else if c.toNat = 34 ∨ c.toNat = 96 then (quotedF c r).map fun x => (2, x.1, x.2 + 1)
    else if c.toNat = 39 then (quotedF c r).map fun x => (3, x.1, x.2 + 1)
    else if 33 ≤ c.toNat ∧ c.toNat ≤ 126 then some (6, [c], 1)
    else none

/-- a token, and the place behind it, as a call answers it -/
def AnsT (x : Option (Int × List UInt8 × Nat)) (i : Nat) (k : Int) (r : ByteArray) (n : Int) : Prop :=
  match x with
  | none => n = -1
  | some (k', t, m) => k = k' ∧ r.data.toList = t ∧ n = (i + m : Nat)

/-- one answer of token -/
def TokTo (s : ByteArray) (i : Nat) (w : World) (x : Option (Int × List UInt8 × Nat)) : Prop :=
  Calls Tryz.prog 42 #[.string s, .int .i64 (i : Int)] w fun e w' => ∃ k r n, e = .returned (.tuple #[tokV k r, .int .i64 n]) ∧ AnsT x i k r n ∧ Below w.heap.size w w'

theorem place {s : ByteArray} {i : Nat} {c : UInt8} {r : List UInt8} (hl : s.data.toList.drop i = c :: r) : ∃ h : i < s.size, s[i] = c := by
  have hil : i < s.size := by
    rcases Nat.lt_or_ge i s.size with h | h
    · exact h
    · rw [List.drop_eq_nil_of_le (by rw [text_len]; exact h)] at hl; cases hl
  refine ⟨hil, ?_⟩
  rw [text_at s i hil]
  have e0 : (s.data.toList.drop i)[0]? = some c := by rw [hl]; rfl
  rw [List.getElem?_drop] at e0
  exact (List.getElem?_eq_some_iff.1 e0).2

theorem tok_block (w : World) : (w.alloc (.cells #[.int .i64 0, .string ⟨#[]⟩] 58)).heap[w.heap.size]? = some (.cells #[.int .i64 0, .string ⟨#[]⟩] 58 (0, 0)) ∧ w.heap.size < (w.alloc (.cells #[.int .i64 0, .string ⟨#[]⟩] 58)).heap.size ∧ Below w.heap.size w (w.alloc (.cells #[.int .i64 0, .string ⟨#[]⟩] 58)) :=
  ⟨heap_alloc_new w _, by simp, kp_new w _⟩

set_option maxHeartbeats 1000000 in
theorem rhint_ok (s : ByteArray) (i : Nat) (c : UInt8) (r : List UInt8) (w : World) (hs : s.size ≤ 140737488351232) (hl : s.data.toList.drop i = c :: r) (h1 : begF [47, 42, 43] (c :: r) = true) :
    TokTo s i w ((hintF (c :: r)).map fun x => (5, x.1, x.2)) := by
  unfold TokTo tokV
  obtain ⟨hil, hc0⟩ := place hl
  obtain ⟨hB, hz, kw⟩ := tok_block w
  have h3 : 3 ≤ s.size - i := by
    have h3 := (List.isPrefixOf_iff_prefix.1 h1).length_le
    have := congrArg List.length hl
    rw [List.length_drop, text_len] at this
    rw [this]
    simpa using h3
  have hP := fun u => rat_ok s ⟨#[47, 42, 43]⟩ i u (by omega) hs (by decide) (by decide)
  rw [show (⟨#[47, 42, 43]⟩ : ByteArray).data.toList = [47, 42, 43] from rfl, hl, h1] at hP
  have hfi := fun u => rfind_ok s ⟨#[42, 47]⟩ (i + 3) u (by omega) hs (by decide) (by decide)
  rw [show (⟨#[42, 47]⟩ : ByteArray).data.toList = ends2 from rfl, show findF s.data.toList ends2 (i + 3) = if Lib.index (s.data.toList.drop (i + 3)) ends2 < 0 then -1 else ((i + 3 : Nat) : Int) + Lib.index (s.data.toList.drop (i + 3)) ends2 from rfl] at hfi
  have hroom : 0 ≤ Lib.index (s.data.toList.drop (i + 3)) ends2 → (Lib.index (s.data.toList.drop (i + 3)) ends2).toNat + 2 ≤ s.size - (i + 3) := fun h => by
    have := index_room h (by decide)
    rw [List.length_drop, text_len] at this
    exact this
  have hcl : closedF (c :: r) 3 = if Lib.index (s.data.toList.drop (i + 3)) ends2 < 0 then 0 else 3 + (Lib.index (s.data.toList.drop (i + 3)) ends2).toNat + 2 := by
    unfold closedF
    rw [← hl, List.drop_drop]
  have hH : hintF (c :: r) = if closedF (c :: r) 3 = 0 then none else some (trimF (((c :: r).take (closedF (c :: r) 3 - 2)).drop 3), closedF (c :: r) 3) := rfl
  rw [hcl] at hH
  have htk : ∀ m, ((c :: r).take (3 + m)).drop 3 = (s.data.toList.drop (i + 3)).take m := fun m => by rw [List.drop_take, ← hl, List.drop_drop, Nat.add_sub_cancel_left]
  have HB := Lib.hid hB
  have HZ := Lib.hid hz
  have HP := Lib.hid hP
  generalize Lib.index (s.data.toList.drop (i + 3)) ends2 = x at hfi hroom hH
  clear hB hz hP hcl
  by_cases hx : x < 0
  · rw [if_pos hx] at hH hfi
    rw [hH]
    have HFi := Lib.hid hfi
    clear hH hfi hl htk hroom
    go_enter Tryz.func42, Tryz.ntmps42
    go_wp2_with fail
    refine (HP.out _).mono ?_
    rintro e w1 ⟨rfl, rfl⟩
    go_wp2_with fail
    refine (HFi.out _).mono ?_
    rintro e w1 ⟨rfl, rfl⟩
    obtain ⟨x0, x1, f0, f1⟩ := cells2 HB.out
    go_wp2_with fail
    refine bodyPost_ret (v := .tuple #[.agg #[.int .i64 0, .string ⟨#[]⟩], .int .i64 (-1)]) ?_ rfl ⟨0, ⟨#[]⟩, -1, rfl, rfl, ?_⟩
    · rw [results_cell_tmp rfl]
      go_simp
    · first | exact kw | exact ((kw.setCell (Nat.le_refl _) _).setCell (Nat.le_refl _) _)
  · rw [if_neg hx] at hfi hH
    obtain ⟨m, rfl⟩ : ∃ m : Nat, x = m := ⟨x.toNat, by omega⟩
    have hr := hroom (by omega)
    rw [Int.toNat_natCast] at hr hH
    rw [if_neg (by omega), show 3 + m + 2 - 2 = 3 + m from by omega, htk] at hH
    have hT := fun u => rtrim_ok (s.extract (i + 3) (i + 3 + m)) u (by rw [ByteArray.size_extract]; omega)
    rw [text_cut, show i + 3 + m - (i + 3) = m from by omega] at hT
    rw [hH]
    have HFi := Lib.hid hfi
    have HT := Lib.hid hT
    have e1 : ((i : Int) + 3).toNat = i + 3 := by omega
    have e2 : ((i : Int) + 3 + (m : Int)).toNat = i + 3 + m := by omega
    have e3 : ¬ ((i : Int) + 3 + (m : Int)) < 0 := by omega
    clear hH hfi hl htk hroom hT
    go_enter Tryz.func42, Tryz.ntmps42
    go_wp2_with fail
    refine (HP.out _).mono ?_
    rintro e w1 ⟨rfl, rfl⟩
    go_wp2_with fail
    refine (HFi.out _).mono ?_
    rintro e w1 ⟨rfl, rfl⟩
    go_wp2_with fail
    refine (HT.out _).mono ?_
    rintro e w1 ⟨rr, rfl, hrr, rfl⟩
    obtain ⟨x0, x1, f0, f1⟩ := cells2 HB.out
    go_wp2_with fail
    refine bodyPost_ret (v := .tuple #[.agg #[.int .i64 5, .string rr], .int .i64 ((i + (3 + m + 2) : Nat) : Int)]) ?_ rfl ⟨5, rr, _, rfl, ⟨rfl, hrr, rfl⟩, ?_⟩
    · rw [results_cell_tmp rfl]
      go_simp
      try omega
    · first | exact kw | exact ((kw.setCell (Nat.le_refl _) _).setCell (Nat.le_refl _) _) | exact kp_new _ _
end

/- The document's layer 4: the token at a place, words and numbers and signs: contracts. -/
section
open Go.RowKit
set_option maxRecDepth 100000

theorem runF_at {p : UInt8 → Bool} {l : List UInt8} {k : Nat} (h : k < l.length) : runF p (l.drop k) = if p l[k] then runF p (l.drop (k + 1)) + 1 else 0 := by
  rw [List.drop_eq_getElem_cons h, runF]

set_option maxHeartbeats 2000000 in
theorem rword_ok (s : ByteArray) (i : Nat) (c : UInt8) (r : List UInt8) (w : World) (hs : s.size ≤ 140737488351232) (hl : s.data.toList.drop i = c :: r) (h1 : begF [47, 42, 43] (c :: r) = false) (h2 : letterF c = true) :
    TokTo s i w (some (1, greatF ((c :: r).take (runF lodF (c :: r))), runF lodF (c :: r))) := by
  unfold TokTo tokV
  obtain ⟨hil, hc0⟩ := place hl
  obtain ⟨hB, hz, kw⟩ := tok_block w
  have hP := fun u => rat_ok s ⟨#[47, 42, 43]⟩ i u (by omega) hs (by decide) (by decide)
  rw [show (⟨#[47, 42, 43]⟩ : ByteArray).data.toList = [47, 42, 43] from rfl, hl, h1] at hP
  have H2 := fun u => rletter_ok c u
  rw [h2] at H2
  have hlen := Lib.hid (text_len s)
  have hle := runF_le lodF (c :: r)
  have hrl : (c :: r).length = s.size - i := by rw [← hl, List.length_drop, text_len]
  rw [hrl] at hle
  have htk : ∀ m, (s.extract i (i + m)).data.toList = (c :: r).take m := fun m => by rw [text_cut, hl, Nat.add_sub_cancel_left]
  have hR : runF lodF (c :: r) = runF lodF (s.data.toList.drop i) := by rw [hl]
  generalize runF lodF (c :: r) = R at hR hle ⊢
  have HR := Lib.hid hR
  have HB := Lib.hid hB
  have HZ := Lib.hid hz
  have HP := Lib.hid hP
  have H2' := Lib.hid H2
  have HTK := Lib.hid htk
  clear hB hz hP H2 h1 h2 hrl htk hR hl
  go_enter Tryz.func42, Tryz.ntmps42
  go_wp2_with fail
  refine (HP.out _).mono ?_
  rintro e w1 ⟨rfl, rfl⟩
  go_wp2_with fail
  refine (H2'.out _).mono ?_
  rintro e w1 ⟨rfl, rfl⟩
  go_wp2_with fail
  go_loop [8] (fun v => ∃ k : Nat, v = .int .i64 k ∧ i ≤ k ∧ k ≤ s.size ∧ Hid (R = (k - i) + runF lodF (s.data.toList.drop k))) (fun v => s.size - (intOf v).toNat)
  case atStart => exact ⟨i, rfl, Nat.le_refl _, by omega, Lib.hid (by rw [HR.out]; omega)⟩
  case round =>
    obtain ⟨k, rfl, hk, hks, hx⟩ := hrel
    clear HR
    have hcase : (k < s.size ∧ R ≠ k - i) ∨ R = k - i := by
      by_cases h : R = k - i
      · exact .inr h
      · refine .inl ⟨?_, h⟩
        rcases Nat.lt_or_ge k s.size with h3 | h3
        · exact h3
        · exfalso
          apply h
          rw [hx.out, List.drop_eq_nil_of_le (by rw [hlen.out]; exact h3)]
          rfl
    by_cases hlt : k < s.size
    · have hb := text_at s k hlt
      have hkl : k < s.data.toList.length := by rw [hlen.out]; exact hlt
      have hstep := runF_at (p := lodF) hkl
      rw [hstep] at hx
      generalize s.data.toList[k] = b at hb hx hstep
      clear hstep
      have hL := fun u => rletter_ok b u
      have hD := fun u => rdigit_ok b u
      cases hlo : letterF b
      · rw [hlo] at hL
        cases hdi : digitF b
        · rw [hdi] at hD
          have hR2 : R = k - i := by
            rw [hx.out, if_neg (by simp [lodF, hlo, hdi])]
            rfl
          subst hR2
          have HL := Lib.hid hL
          have HD := Lib.hid hD
          have ek : i + (k - i) = k := by omega
          have hG := fun u => word_ok (s.extract i k) u (by rw [ByteArray.size_extract]; omega)
          have ht := HTK.out (k - i)
          rw [ek] at ht
          rw [ht] at hG
          have HG := Lib.hid hG
          have HE := Lib.hid ek
          clear hL hD hlo hdi hx hG ht ek hcase
          go_wp2_with fail
          refine (HL.out _).mono ?_
          rintro e w1 ⟨rfl, rfl⟩
          go_wp2_with fail
          refine (HD.out _).mono ?_
          rintro e w1 ⟨rfl, rfl⟩
          go_wp2_with fail
          refine (HG.out _).mono ?_
          rintro e w2 ⟨rr, rfl, hrr, k2⟩
          obtain ⟨x0, x1, f0, f1⟩ := cells2 ((k2.block _ HZ.out).trans HB.out)
          go_wp2_with fail
          refine bodyPost_ret (v := .tuple #[.agg #[.int .i64 1, .string rr], .int .i64 (k : Int)]) ?_ rfl ⟨1, rr, _, rfl, ⟨rfl, hrr, by rw [HE.out]⟩, ?_⟩
          · rw [results_cell_tmp rfl]
            go_simp
          · exact (((kp_trans kw k2).setCell (Nat.le_refl _) _).setCell (Nat.le_refl _) _)
        · rw [hdi] at hD
          have hx2 : Hid (R = (k + 1 - i) + runF lodF (s.data.toList.drop (k + 1))) := Lib.hid (by
            rw [hx.out, if_pos (by simp [lodF, hdi])]
            omega)
          have HL := Lib.hid hL
          have HD := Lib.hid hD
          clear hL hD hlo hdi hx hcase
          go_wp2_with fail
          refine (HL.out _).mono ?_
          rintro e w1 ⟨rfl, rfl⟩
          go_wp2_with fail
          refine (HD.out _).mono ?_
          rintro e w1 ⟨rfl, rfl⟩
          go_wp2_with fail
          go_round
          case rel => exact ⟨k + 1, by go_num, by omega, by omega, hx2⟩
          case measure => simp [intOf]; omega
      · rw [hlo] at hL
        have hx2 : Hid (R = (k + 1 - i) + runF lodF (s.data.toList.drop (k + 1))) := Lib.hid (by
          rw [hx.out, if_pos (by simp [lodF, hlo])]
          omega)
        have HL := Lib.hid hL
        clear hL hlo hx hcase hD
        go_wp2_with fail
        refine (HL.out _).mono ?_
        rintro e w1 ⟨rfl, rfl⟩
        go_wp2_with fail
        go_round
        case rel => exact ⟨k + 1, by go_num, by omega, by omega, hx2⟩
        case measure => simp [intOf]; omega
    · have hR2 : R = k - i := by rcases hcase with h | h <;> omega
      subst hR2
      have ek : i + (k - i) = k := by omega
      have hG := fun u => word_ok (s.extract i k) u (by rw [ByteArray.size_extract]; omega)
      have ht := HTK.out (k - i)
      rw [ek] at ht
      rw [ht] at hG
      have HG := Lib.hid hG
      have HE := Lib.hid ek
      clear hx hG ht ek hcase
      go_wp2_with fail
      refine (HG.out _).mono ?_
      rintro e w2 ⟨rr, rfl, hrr, k2⟩
      obtain ⟨x0, x1, f0, f1⟩ := cells2 ((k2.block _ HZ.out).trans HB.out)
      go_wp2_with fail
      refine bodyPost_ret (v := .tuple #[.agg #[.int .i64 1, .string rr], .int .i64 (k : Int)]) ?_ rfl ⟨1, rr, _, rfl, ⟨rfl, hrr, by rw [HE.out]⟩, ?_⟩
      · rw [results_cell_tmp rfl]
        go_simp
      · exact (((kp_trans kw k2).setCell (Nat.le_refl _) _).setCell (Nat.le_refl _) _)

set_option maxHeartbeats 2000000 in
theorem rnumber_ok (s : ByteArray) (i : Nat) (c : UInt8) (r : List UInt8) (w : World) (hs : s.size ≤ 140737488351232) (hl : s.data.toList.drop i = c :: r) (h1 : begF [47, 42, 43] (c :: r) = false) (h2 : letterF c = false) (h3 : digitF c = true) :
    TokTo s i w (some (4, (c :: r).take (runF digitF (c :: r)), runF digitF (c :: r))) := by
  unfold TokTo tokV
  obtain ⟨hil, hc0⟩ := place hl
  obtain ⟨hB, hz, kw⟩ := tok_block w
  have hP := fun u => rat_ok s ⟨#[47, 42, 43]⟩ i u (by omega) hs (by decide) (by decide)
  rw [show (⟨#[47, 42, 43]⟩ : ByteArray).data.toList = [47, 42, 43] from rfl, hl, h1] at hP
  have H2 := fun u => rletter_ok c u
  rw [h2] at H2
  have H3 := fun u => rdigit_ok c u
  rw [h3] at H3
  have hlen := Lib.hid (text_len s)
  have hle := runF_le digitF (c :: r)
  have hrl : (c :: r).length = s.size - i := by rw [← hl, List.length_drop, text_len]
  rw [hrl] at hle
  have htk : ∀ m, (s.extract i (i + m)).data.toList = (c :: r).take m := fun m => by rw [text_cut, hl, Nat.add_sub_cancel_left]
  have hR : runF digitF (c :: r) = runF digitF (s.data.toList.drop i) := by rw [hl]
  generalize runF digitF (c :: r) = R at hR hle ⊢
  have HR := Lib.hid hR
  have HB := Lib.hid hB
  have HZ := Lib.hid hz
  have HP := Lib.hid hP
  have H2' := Lib.hid H2
  have H3' := Lib.hid H3
  have HTK := Lib.hid htk
  clear hB hz hP H2 H3 h1 h2 h3 hrl htk hR hl
  go_enter Tryz.func42, Tryz.ntmps42
  go_wp2_with fail
  refine (HP.out _).mono ?_
  rintro e w1 ⟨rfl, rfl⟩
  go_wp2_with fail
  refine (H2'.out _).mono ?_
  rintro e w1 ⟨rfl, rfl⟩
  go_wp2_with fail
  refine (H3'.out _).mono ?_
  rintro e w1 ⟨rfl, rfl⟩
  go_wp2_with fail
  go_loop [9] (fun v => ∃ k : Nat, v = .int .i64 k ∧ i ≤ k ∧ k ≤ s.size ∧ Hid (R = (k - i) + runF digitF (s.data.toList.drop k))) (fun v => s.size - (intOf v).toNat)
  case atStart => exact ⟨i, rfl, Nat.le_refl _, by omega, Lib.hid (by rw [HR.out]; omega)⟩
  case round =>
    obtain ⟨k, rfl, hk, hks, hx⟩ := hrel
    clear HR
    by_cases hlt : k < s.size
    · have hb := text_at s k hlt
      have hkl : k < s.data.toList.length := by rw [hlen.out]; exact hlt
      have hstep := runF_at (p := digitF) hkl
      rw [hstep] at hx
      generalize s.data.toList[k] = b at hb hx hstep
      clear hstep
      have hD := fun u => rdigit_ok b u
      cases hdi : digitF b
      · rw [hdi] at hD
        have hR2 : R = k - i := by
          rw [hx.out, if_neg (by simp [hdi])]
          rfl
        subst hR2
        have HD := Lib.hid hD
        have ek : i + (k - i) = k := by omega
        have ht := HTK.out (k - i)
        rw [ek] at ht
        have HT := Lib.hid ht
        have HE := Lib.hid ek
        clear hD hdi hx ht ek
        obtain ⟨x0, x1, f0, f1⟩ := cells2 HB.out
        go_wp2_with fail
        refine (HD.out _).mono ?_
        rintro e w1 ⟨rfl, rfl⟩
        go_wp2_with fail
        refine bodyPost_ret (v := .tuple #[.agg #[.int .i64 4, .string (s.extract i k)], .int .i64 (k : Int)]) ?_ rfl ⟨4, s.extract i k, _, rfl, ⟨rfl, HT.out, by rw [HE.out]⟩, ?_⟩
        · rw [results_cell_tmp rfl]
          go_simp
        · first | exact kw | exact ((kw.setCell (Nat.le_refl _) _).setCell (Nat.le_refl _) _) | exact kp_new _ _
      · rw [hdi] at hD
        have hx2 : Hid (R = (k + 1 - i) + runF digitF (s.data.toList.drop (k + 1))) := Lib.hid (by
          rw [hx.out, if_pos (by simp [hdi])]
          omega)
        have HD := Lib.hid hD
        clear hD hdi hx
        go_wp2_with fail
        refine (HD.out _).mono ?_
        rintro e w1 ⟨rfl, rfl⟩
        go_wp2_with fail
        go_round
        case rel => exact ⟨k + 1, by go_num, by omega, by omega, hx2⟩
        case measure => simp [intOf]; omega
    · have hR2 : R = k - i := by
        rw [hx.out, List.drop_eq_nil_of_le (by rw [hlen.out]; omega)]
        rfl
      subst hR2
      have ek : i + (k - i) = k := by omega
      have ht := HTK.out (k - i)
      rw [ek] at ht
      have HT := Lib.hid ht
      have HE := Lib.hid ek
      clear hx ht ek
      obtain ⟨x0, x1, f0, f1⟩ := cells2 HB.out
      go_wp2_with fail
      refine bodyPost_ret (v := .tuple #[.agg #[.int .i64 4, .string (s.extract i k)], .int .i64 (k : Int)]) ?_ rfl ⟨4, s.extract i k, _, rfl, ⟨rfl, HT.out, by rw [HE.out]⟩, ?_⟩
      · rw [results_cell_tmp rfl]
        go_simp
      · first | exact kw | exact ((kw.setCell (Nat.le_refl _) _).setCell (Nat.le_refl _) _) | exact kp_new _ _
end

/- The document's layer 4: the token at a place, quotes and signs; all of it: contracts. -/
section
open Go.RowKit
set_option maxRecDepth 100000

set_option maxHeartbeats 1000000 in
theorem rname_ok (s : ByteArray) (i : Nat) (c : UInt8) (r : List UInt8) (w : World) (hs : s.size ≤ 140737488351232) (hl : s.data.toList.drop i = c :: r) (h1 : begF [47, 42, 43] (c :: r) = false) (h2 : letterF c = false) (h3 : digitF c = false) (h4 : c.toNat = 34 ∨ c.toNat = 96) :
    TokTo s i w ((quotedF c r).map fun x => (2, x.1, x.2 + 1)) := by
  unfold TokTo tokV
  obtain ⟨hil, hc0⟩ := place hl
  obtain ⟨hB, hz, kw⟩ := tok_block w
  have hP := fun u => rat_ok s ⟨#[47, 42, 43]⟩ i u (by omega) hs (by decide) (by decide)
  rw [show (⟨#[47, 42, 43]⟩ : ByteArray).data.toList = [47, 42, 43] from rfl, hl, h1] at hP
  have H2 := fun u => rletter_ok c u
  rw [h2] at H2
  have H3 := fun u => rdigit_ok c u
  rw [h3] at H3
  have HB := Lib.hid hB
  have HZ := Lib.hid hz
  have HP := Lib.hid hP
  have H2' := Lib.hid H2
  have H3' := Lib.hid H3
  have HL := Lib.hid hl
  clear hB hz hP H2 H3 h1 h2 h3
  have hQ := fun u => between_ok s i c r u hs HL.out
  have HQ := Lib.hid hQ
  have h4b : (((c.toNat : Int) == 34) = true) ∨ (((c.toNat : Int) == 34) = false ∧ ((c.toNat : Int) == 96) = true) := by
    simp only [beq_iff_eq, beq_eq_false_iff_ne, ne_eq]
    omega
  clear hQ h4 hl
  rcases h4b with h4a | ⟨h4a, h4c⟩
  all_goals
    go_enter Tryz.func42, Tryz.ntmps42
    go_wp2_with fail
    refine (HP.out _).mono ?_
    rintro e w1 ⟨rfl, rfl⟩
    go_wp2_with fail
    refine (H2'.out _).mono ?_
    rintro e w1 ⟨rfl, rfl⟩
    go_wp2_with fail
    refine (H3'.out _).mono ?_
    rintro e w1 ⟨rfl, rfl⟩
    go_wp2_with fail
    refine (HQ.out _).mono ?_
    rintro e w2 ⟨rr, n, rfl, hA, k2⟩
    obtain ⟨x0, x1, f0, f1⟩ := cells2 ((k2.block _ HZ.out).trans HB.out)
    go_wp2_with fail
    refine bodyPost_ret (v := .tuple #[.agg #[.int .i64 2, .string rr], .int .i64 n]) ?_ rfl ⟨2, rr, n, rfl, ?_, ?_⟩
    · rw [results_cell_tmp rfl]
      go_simp
    · cases hq : quotedF c r with
      | none => rw [hq] at hA; exact hA
      | some x => rw [hq] at hA; exact ⟨rfl, hA.1, by rw [hA.2]; congr 1; omega⟩
    · exact (((kp_trans kw k2).setCell (Nat.le_refl _) _).setCell (Nat.le_refl _) _)

set_option maxHeartbeats 1000000 in
theorem rstring_ok (s : ByteArray) (i : Nat) (c : UInt8) (r : List UInt8) (w : World) (hs : s.size ≤ 140737488351232) (hl : s.data.toList.drop i = c :: r) (h1 : begF [47, 42, 43] (c :: r) = false) (h2 : letterF c = false) (h3 : digitF c = false) (h4 : c.toNat = 39) :
    TokTo s i w ((quotedF c r).map fun x => (3, x.1, x.2 + 1)) := by
  unfold TokTo tokV
  obtain ⟨hil, hc0⟩ := place hl
  obtain ⟨hB, hz, kw⟩ := tok_block w
  have hP := fun u => rat_ok s ⟨#[47, 42, 43]⟩ i u (by omega) hs (by decide) (by decide)
  rw [show (⟨#[47, 42, 43]⟩ : ByteArray).data.toList = [47, 42, 43] from rfl, hl, h1] at hP
  have H2 := fun u => rletter_ok c u
  rw [h2] at H2
  have H3 := fun u => rdigit_ok c u
  rw [h3] at H3
  have HB := Lib.hid hB
  have HZ := Lib.hid hz
  have HP := Lib.hid hP
  have H2' := Lib.hid H2
  have H3' := Lib.hid H3
  have HL := Lib.hid hl
  clear hB hz hP H2 H3 h1 h2 h3
  have hQ := fun u => between_ok s i c r u hs HL.out
  have HQ := Lib.hid hQ
  have h4a : ((c.toNat : Int) == 34) = false := by simp only [beq_eq_false_iff_ne, ne_eq]; omega
  have h4b : ((c.toNat : Int) == 96) = false := by simp only [beq_eq_false_iff_ne, ne_eq]; omega
  have h4c : ((c.toNat : Int) == 39) = true := by simp only [beq_iff_eq]; omega
  clear hQ h4 hl
  go_enter Tryz.func42, Tryz.ntmps42
  go_wp2_with fail
  refine (HP.out _).mono ?_
  rintro e w1 ⟨rfl, rfl⟩
  go_wp2_with fail
  refine (H2'.out _).mono ?_
  rintro e w1 ⟨rfl, rfl⟩
  go_wp2_with fail
  refine (H3'.out _).mono ?_
  rintro e w1 ⟨rfl, rfl⟩
  go_wp2_with fail
  refine (HQ.out _).mono ?_
  rintro e w2 ⟨rr, n, rfl, hA, k2⟩
  obtain ⟨x0, x1, f0, f1⟩ := cells2 ((k2.block _ HZ.out).trans HB.out)
  go_wp2_with fail
  refine bodyPost_ret (v := .tuple #[.agg #[.int .i64 3, .string rr], .int .i64 n]) ?_ rfl ⟨3, rr, n, rfl, ?_, ?_⟩
  · rw [results_cell_tmp rfl]
    go_simp
  · cases hq : quotedF c r with
    | none => rw [hq] at hA; exact hA
    | some x => rw [hq] at hA; exact ⟨rfl, hA.1, by rw [hA.2]; congr 1; omega⟩
  · exact (((kp_trans kw k2).setCell (Nat.le_refl _) _).setCell (Nat.le_refl _) _)

set_option maxHeartbeats 1000000 in
theorem rsign_ok (s : ByteArray) (i : Nat) (c : UInt8) (r : List UInt8) (w : World) (hs : s.size ≤ 140737488351232) (hl : s.data.toList.drop i = c :: r) (h1 : begF [47, 42, 43] (c :: r) = false) (h2 : letterF c = false) (h3 : digitF c = false) (h4 : ¬ (c.toNat = 34 ∨ c.toNat = 96)) (h5 : ¬ c.toNat = 39) :
    TokTo s i w (if 33 ≤ c.toNat ∧ c.toNat ≤ 126 then some (6, [c], 1) else none) := by
  unfold TokTo tokV
  obtain ⟨hil, hc0⟩ := place hl
  obtain ⟨hB, hz, kw⟩ := tok_block w
  have hP := fun u => rat_ok s ⟨#[47, 42, 43]⟩ i u (by omega) hs (by decide) (by decide)
  rw [show (⟨#[47, 42, 43]⟩ : ByteArray).data.toList = [47, 42, 43] from rfl, hl, h1] at hP
  have H2 := fun u => rletter_ok c u
  rw [h2] at H2
  have H3 := fun u => rdigit_ok c u
  rw [h3] at H3
  have HB := Lib.hid hB
  have HZ := Lib.hid hz
  have HP := Lib.hid hP
  have H2' := Lib.hid H2
  have H3' := Lib.hid H3
  have HL := Lib.hid hl
  clear hB hz hP H2 H3 h1 h2 h3
  have h4a : ((c.toNat : Int) == 34) = false := by simp only [beq_eq_false_iff_ne, ne_eq]; omega
  have h4b : ((c.toNat : Int) == 96) = false := by simp only [beq_eq_false_iff_ne, ne_eq]; omega
  have h4c : ((c.toNat : Int) == 39) = false := by simp only [beq_eq_false_iff_ne, ne_eq]; omega
  have ht : (s.extract i (i + 1)).data.toList = [c] := by rw [text_cut, hl, Nat.add_sub_cancel_left]; rfl
  have HT := Lib.hid ht
  have e1 : ((i : Int) + 1).toNat = i + 1 := by omega
  clear h4 h5 hl ht
  by_cases h6 : 33 ≤ c.toNat ∧ c.toNat ≤ 126
  · rw [if_pos h6]
    obtain ⟨h6, h7⟩ := h6
    go_enter Tryz.func42, Tryz.ntmps42
    go_wp2_with fail
    refine (HP.out _).mono ?_
    rintro e w1 ⟨rfl, rfl⟩
    go_wp2_with fail
    refine (H2'.out _).mono ?_
    rintro e w1 ⟨rfl, rfl⟩
    go_wp2_with fail
    refine (H3'.out _).mono ?_
    rintro e w1 ⟨rfl, rfl⟩
    obtain ⟨x0, x1, f0, f1⟩ := cells2 HB.out
    go_wp2_with fail
    refine bodyPost_ret (v := .tuple #[.agg #[.int .i64 6, .string (s.extract i (i + 1))], .int .i64 ((i + 1 : Nat) : Int)]) ?_ rfl ⟨6, s.extract i (i + 1), _, rfl, ⟨rfl, HT.out, rfl⟩, ?_⟩
    · rw [results_cell_tmp rfl]
      go_simp
    · first | exact kw | exact ((kw.setCell (Nat.le_refl _) _).setCell (Nat.le_refl _) _) | exact kp_new _ _
  · rw [if_neg h6]
    have h7 : (¬ 33 ≤ c.toNat) ∨ (33 ≤ c.toNat ∧ ¬ c.toNat ≤ 126) := by omega
    clear h6
    rcases h7 with h6 | ⟨h6, h7⟩
    all_goals
      go_enter Tryz.func42, Tryz.ntmps42
      go_wp2_with fail
      refine (HP.out _).mono ?_
      rintro e w1 ⟨rfl, rfl⟩
      go_wp2_with fail
      refine (H2'.out _).mono ?_
      rintro e w1 ⟨rfl, rfl⟩
      go_wp2_with fail
      refine (H3'.out _).mono ?_
      rintro e w1 ⟨rfl, rfl⟩
      obtain ⟨x0, x1, f0, f1⟩ := cells2 HB.out
      go_wp2_with fail
      refine bodyPost_ret (v := .tuple #[.agg #[.int .i64 0, .string ⟨#[]⟩], .int .i64 (-1)]) ?_ rfl ⟨0, ⟨#[]⟩, -1, rfl, rfl, ?_⟩
      · rw [results_cell_tmp rfl]
        go_simp
      · first | exact kw | exact ((kw.setCell (Nat.le_refl _) _).setCell (Nat.le_refl _) _) | exact kp_new _ _

theorem token_ok (s : ByteArray) (i : Nat) (w : World) (hs : s.size ≤ 140737488351232) (hi : i < s.size) : TokTo s i w (rtokF (s.data.toList.drop i)) := by
  obtain ⟨c, r, hl⟩ : ∃ c r, s.data.toList.drop i = c :: r := ⟨_, _, List.drop_eq_getElem_cons (by rw [text_len]; exact hi)⟩
  rw [hl, rtokF]
  by_cases h1 : begF [47, 42, 43] (c :: r) = true
  · rw [if_pos h1]; exact rhint_ok s i c r w hs hl h1
  rw [if_neg h1]
  have h1f : begF [47, 42, 43] (c :: r) = false := by simpa using h1
  by_cases h2 : letterF c = true
  · rw [if_pos h2]; exact rword_ok s i c r w hs hl h1f h2
  rw [if_neg h2]
  have h2f : letterF c = false := by simpa using h2
  by_cases h3 : digitF c = true
  · rw [if_pos h3]; exact rnumber_ok s i c r w hs hl h1f h2f h3
  rw [if_neg h3]
  have h3f : digitF c = false := by simpa using h3
  by_cases h4 : c.toNat = 34 ∨ c.toNat = 96
  · rw [if_pos h4]; exact rname_ok s i c r w hs hl h1f h2f h3f h4
  rw [if_neg h4]
  by_cases h5 : c.toNat = 39
  · rw [if_pos h5]; exact rstring_ok s i c r w hs hl h1f h2f h3f h5
  rw [if_neg h5]
  exact rsign_ok s i c r w hs hl h1f h2f h3f h4 h5
end

/- The document's layer 4: a statement's tokens: contract. -/
section
open Go.RowKit
set_option maxRecDepth 100000

theorem beg_two (a b : UInt8) (c : UInt8) (r : List UInt8) (h : begF [a, b] (c :: r) = true) : c = a := by
  unfold begF Lib.hasPrefix at h
  rw [List.isPrefixOf] at h
  simp at h
  exact h.1.symm
theorem beg_three (a b d : UInt8) (c : UInt8) (r : List UInt8) (h : begF [a, b, d] (c :: r) = true) : c = a := by
  unfold begF Lib.hasPrefix at h
  rw [List.isPrefixOf] at h
  simp at h
  exact h.1.symm
theorem remark_no_line (c : UInt8) (r : List UInt8) (h : isRemarkF (c :: r) = true) : isLineF (c :: r) = false := by
  unfold isRemarkF at h
  simp only [Bool.and_eq_true] at h
  have hc := beg_two _ _ _ _ h.1
  subst hc
  unfold isLineF
  cases hb : begF [45, 45] ((47 : UInt8) :: r) with
  | false => rfl
  | true => exact absurd (beg_two _ _ _ _ hb) (by decide)
theorem line_pos (c : UInt8) (r : List UInt8) (h1 : blankF c = false) : 0 < lineF (c :: r) := by
  unfold lineF
  split
  · simp
  · rename_i hx
    have hc : (c == 10) = false := by
      simp only [beq_eq_false_iff_ne, ne_eq]
      rintro rfl
      revert h1
      decide
    rw [Lib.indexByte, hc] at hx ⊢
    simp only [Bool.false_eq_true, if_false] at hx ⊢
    have hge := indexByte_lt.indexByte_ge1 r 10
    split
    · rename_i h; rw [if_pos h] at hx; omega
    · rename_i h
      have : Lib.indexByte r 10 ≠ -1 := by simpa using h
      omega

theorem step_bad (c : UInt8) (r : List UInt8) (h : skipF (c :: r) < 0) : stepF (c :: r) = .bad := by
  rw [skipF] at h
  split at h
  · omega
  rename_i h1
  split at h
  · rename_i h2
    rw [stepF, if_neg h1, if_neg (by rw [remark_no_line c r h2]; simp), if_pos h2]
    split at h
    · rename_i h3; rw [if_pos h3]
    · omega
  split at h
  · omega
  · omega
theorem step_skip (c : UInt8) (r : List UInt8) (m : Nat) (h : skipF (c :: r) = m) (hm : 0 < m) : stepF (c :: r) = .skip m := by
  rw [skipF] at h
  split at h
  · rename_i h1
    rw [stepF, if_pos h1]
    congr 1
    omega
  rename_i h1
  split at h
  · rename_i h2
    rw [stepF, if_neg h1, if_neg (by rw [remark_no_line c r h2]; simp), if_pos h2]
    split at h
    · omega
    · rename_i h3
      rw [if_neg h3]
      congr 1
      omega
  split at h
  · rename_i h3
    rw [stepF, if_neg h1, if_pos h3]
    congr 1
    omega
  · omega
theorem rtok_first (c : UInt8) (r : List UInt8) (h1 : blankF c = false) (h2 : isLineF (c :: r) = false) : rtokF (c :: r) = firstI (c :: r) := by
  have h35 : ¬ c.toNat = 35 := by
    intro h
    change (decide (c.toNat = 35) || begF [45, 45] (c :: r)) = false at h2
    rw [decide_eq_true h] at h2
    simp at h2
  have hsign : signF c = (!(decide (c.toNat ≤ 32) || decide (126 < c.toNat) || lodF c) && (decide (c.toNat ≠ 34) && decide (c.toNat ≠ 96) && decide (c.toNat ≠ 39) && decide (c.toNat ≠ 35))) := rfl
  unfold firstI
  rw [rtokF]
  simp only [firstF]
  by_cases hb : begF [47, 42, 43] (c :: r) = true
  · have hc := beg_three _ _ _ _ _ hb
    subst hc
    rw [if_pos hb, if_neg (by decide), if_neg (by decide), if_neg (by decide), if_neg (by decide), if_pos hb]
    unfold hintF
    split <;> rfl
  rw [if_neg hb]
  split
  · rfl
  split
  · rfl
  split
  · simp only [Option.map_map]; rfl
  split
  · simp only [Option.map_map]; rfl
  rename_i hl hd hq hs
  have hlod : lodF c = false := by simp [lodF, hl, hd]
  rw [hlod] at hsign
  by_cases h6 : 33 ≤ c.toNat ∧ c.toNat ≤ 126
  · have : signF c = true := by
      rw [hsign]
      simp
      omega
    rw [if_pos h6, if_pos this]
    rfl
  · have : signF c = false := by
      rw [hsign]
      simp
      omega
    rw [if_neg h6, this]
    rfl
theorem step_first (c : UInt8) (r : List UInt8) (h : skipF (c :: r) = 0) : blankF c = false ∧ isLineF (c :: r) = false ∧ stepF (c :: r) = match firstF (c :: r) with | none => .bad | some (k, t, n) => .tok k t n := by
  rw [skipF] at h
  split at h
  · omega
  rename_i h1
  have h1f : blankF c = false := by simpa using h1
  split at h
  · rename_i h2
    split at h
    · omega
    · rename_i h3; omega
  rename_i h2
  split at h
  · have := line_pos c r h1f; omega
  rename_i h3
  refine ⟨h1f, by simpa using h3, ?_⟩
  rw [stepF, if_neg h1, if_neg h3, if_neg h2]
  cases firstF (c :: r) <;> rfl

theorem skip_le : ∀ l : List UInt8, skipF l ≤ l.length
  | [] => by simp [skipF]
  | c :: r => by
    rw [skipF]
    split
    · simp; omega
    split
    · rename_i h2
      have h2a : begF [47, 42] (c :: r) = true := by
        unfold isRemarkF at h2
        simp only [Bool.and_eq_true] at h2
        exact h2.1
      have h3 := (List.isPrefixOf_iff_prefix.1 h2a).length_le
      have := (closedF_le (c :: r) 2 (by simpa using h3)).1
      split <;> omega
    split
    · unfold lineF
      split
      · omega
      · have := indexByte_lt (l := c :: r) (c := 10) (by omega)
        omega
    · omega

theorem OT.empty (e : TypeId) (w : World) : OT e (w.alloc (.cells #[] e)) w.heap.size (some ⟨w.heap.size, 0, none⟩) 0 0 [] :=
  ⟨own_new_s w w.heap.size 2 e 0 [] rfl (Nat.le_refl _) (by simp [maxLen]), Nat.le_refl _⟩

set_option maxHeartbeats 2000000 in
theorem rlex_ok (s : ByteArray) (w : World) (hm : s.size ≤ maxLen) : LexTo 17 58 s w := by
  unfold LexTo
  unfold maxLen at hm
  by_cases hlong : 200 < s.size
  · have hA : lexA s.data.toList = ([], 4) := by unfold lexA; rw [text_len, if_pos hlong]
    have HA := Lib.hid hA
    clear hA
    go_enter Tryz.func17, Tryz.ntmps17
    go_wp2_with fail
    go_ret2
    exact ⟨none, 0, 0, 4, [], rfl, OT.nil _ _ _, by rw [HA.out]; rfl, Below.refl _ _⟩
  have hA : ∀ R, lexF s.data.toList = R → lexA s.data.toList = (match R with | none => ([], 2) | some x => (x, 0)) := fun R h => by unfold lexA; rw [text_len, if_neg hlong, h]; cases R <;> rfl
  generalize hR0 : lexF s.data.toList = R at hA
  have hA1 := hA R rfl
  have HA := Lib.hid hA1
  have HR := Lib.hid hR0
  have hlen := Lib.hid (text_len s)
  clear hA hA1 hR0
  obtain ⟨i0, hi, hz0, hz1, hz2⟩ := info_parts tkinfoR
  go_enter Tryz.func17, Tryz.ntmps17
  go_wp2
  go_loopw [4, 5] (fun l4 at_ wr => ∃ (k : Nat) (A : Option Addr) (n c : Nat) (ts : List Tk), at_ = .int .i64 k ∧ k ≤ s.size ∧ l4 = .slice A n c ∧ OT 58 wr w.heap.size A n c ts ∧ n ≤ k ∧ Hid (R = (lexF (s.data.toList.drop k)).map (saysT ts ++ ·)) ∧ Below w.heap.size w wr) (fun _ at_ _ => s.size - (intOf at_).toNat)
  case atStart => exact ⟨0, _, 0, _, [], rfl, Nat.zero_le _, rfl, OT.empty _ w, Nat.le_refl _, Lib.hid (by rw [← HR.out]; simp [saysT]), kp_new _ _⟩
  case round =>
    obtain ⟨k, A, n, c, ts, rfl, hks, rfl, ho, hnk, hx, kw⟩ := hrel
    clear HR
    by_cases hlt : k < s.size
    · have hkl : k < s.data.toList.length := by rw [hlen.out]; exact hlt
      obtain ⟨b, r', hcons⟩ : ∃ b r', s.data.toList.drop k = b :: r' := ⟨_, _, List.drop_eq_getElem_cons hkl⟩
      have hne : s.data.toList.drop k ≠ [] := by rw [hcons]; simp
      have hdd : ∀ j, (s.data.toList.drop k).drop j = s.data.toList.drop (k + j) := fun j => by rw [List.drop_drop]
      have hdl : (s.data.toList.drop k).length = s.size - k := by rw [List.length_drop, hlen.out]
      have hS := skip_ok s k b r' wr (by omega) hcons
      have hT := fun u => token_ok s k u (by omega) hlt
      have hA : skipA s.data.toList k = if skipF (b :: r') < 0 then -1 else (k : Int) + skipF (b :: r') := by unfold skipA; rw [hcons]
      rw [hA] at hS
      rw [hcons] at hT
      by_cases h1 : skipF (b :: r') < 0
      · rw [if_pos h1] at hS
        have hR : R = none := by rw [hx.out, lexF_bad hne (by rw [hcons]; exact step_bad b r' h1)]; rfl
        subst hR
        have HS := Lib.hid hS
        clear hS hT hA hx h1
        go_wp2_with fail
        refine HS.out.mono ?_
        rintro e w1 ⟨rfl, k1⟩
        go_wp2_with fail
        go_ret2
        exact ⟨none, 0, 0, 2, [], rfl, OT.nil _ _ _, by rw [HA.out]; rfl, kp_trans kw k1⟩
      rw [if_neg h1] at hS
      by_cases h2 : skipF (b :: r') = 0
      · rw [h2] at hS
        obtain ⟨hb1, hb2, hst⟩ := step_first b r' h2
        have hrt := rtok_first b r' hb1 hb2
        rw [hrt] at hT
        unfold TokTo tokV at hT
        have hfi : firstI (b :: r') = (firstF (b :: r')).map fun x => ((x.1 : Int), x.2.1, x.2.2) := rfl
        rw [hfi] at hT
        have hsizes := firstF_size (l := b :: r')
        have hbl : (b :: r').length = s.size - k := by rw [← hcons, hdl]
        rw [hbl] at hsizes
        have e0 : (k : Int) + 0 = (k : Int) := by omega
        rw [e0] at hS
        have HS := Lib.hid hS
        cases hff : firstF (b :: r') with
        | none =>
          rw [hff] at hst hT
          have hR : R = none := by rw [hx.out, lexF_bad hne (by rw [hcons]; exact hst)]; rfl
          subst hR
          have HT := Lib.hid hT
          clear hS hT hA hx h1 h2 hst hrt hsizes hbl hfi hff e0
          go_wp2_with fail
          refine HS.out.mono ?_
          rintro e w1 ⟨rfl, k1⟩
          go_wp2_with fail
          refine (HT.out _).mono ?_
          rintro e w2 ⟨kd, rr, nn, rfl, rfl, k2⟩
          go_wp2_with fail
          go_ret2
          exact ⟨none, 0, 0, 2, [], rfl, OT.nil _ _ _, by rw [HA.out]; rfl, kp_alloc (kp_trans kw (kp_trans k1 k2)) _⟩
        | some x =>
          obtain ⟨kd, t, m⟩ := x
          rw [hff] at hst hT
          obtain ⟨hm0, hml⟩ := hsizes kd t m hff
          have hx2 : Hid (R = ((lexF (s.data.toList.drop (k + m))).map (((kd : Int), t) :: ·)).map (saysT ts ++ ·)) := Lib.hid (by rw [hx.out, lexF_tok hne (by rw [hcons]; exact hst) (by omega), hdd])
          have HT := Lib.hid hT
          clear hS hT hA hx h1 h2 hst hrt hsizes hbl hfi hff e0 hcons hne hdd hdl
          go_wp2_with fail
          refine HS.out.mono ?_
          rintro e w1 ⟨rfl, k1⟩
          go_wp2_with fail
          refine (HT.out _).mono ?_
          rintro e w2 ⟨kd2, r1, nn, rfl, ⟨rfl, hr1, rfl⟩, k2⟩
          have k12 := kp_trans k1 k2
          have ho1 := ho.next k12
          have kw1 := kp_trans kw k12
          have hnn : ¬ ((k + m : Nat) : Int) < 0 := by omega
          have hsrc : ∀ X, Rd ((w2.alloc X).alloc (.cells #[.int .i64 (kd : Int), .string r1] 58)) (w2.heap.size + 1 + 1) (some ⟨w2.heap.size + 1, 0, none⟩) [.int .i64 (kd : Int), .string r1] := fun X => by
            have := Rd.new (w2.alloc X) 58 [.int .i64 (kd : Int), .string r1]
            simpa using this
          have HSRC := Lib.hid hsrc
          have hsw := kw1.size
          clear hsrc
          go_wp2_with (at_builtin; refine wpList_append_rds rfl _ _ _ rfl w.heap.size 58 i0 _ 2 24 Tryz.underlying54 hi hz0 hz1 hz2 rfl (by omega) _ n _ rfl ((ho1.own.alloc _).alloc _) _ _ _ _ [.int .i64 (kd : Int), .string r1] rfl rfl (HSRC.out _) (by simp [Value.oneCell']) (by unfold maxLen; omega) (by omega) (by simp; omega) ?_; intro v3 w3 hown3 hg3; obtain ⟨A3, c3, rfl, ho3⟩ := OT.push hown3)
          go_roundw
          case rel => exact ⟨k + m, A3, n + 1, c3, ts ++ [⟨kd, r1⟩], by go_num, by omega, rfl, ho3, by omega, Lib.hid (by rw [hx2.out, saysT_append]; cases lexF (s.data.toList.drop (k + m)) <;> simp [saysT, Tk.says, hr1]), (kp_alloc (kp_alloc kw1 _) _).trans (below_own_s ((ho1.own.alloc _).alloc _) hg3 (by simp; omega))⟩
          case measure => simp [intOf]; omega
      · obtain ⟨m, hm⟩ : ∃ m : Nat, skipF (b :: r') = m := ⟨(skipF (b :: r')).toNat, by omega⟩
        rw [hm] at hS
        have hmb : m ≤ s.size - k := by
          have h3 := skip_le (b :: r')
          rw [hm, ← hcons, hdl] at h3
          omega
        have hx2 : Hid (R = (lexF (s.data.toList.drop (k + m))).map (saysT ts ++ ·)) := Lib.hid (by rw [hx.out, lexF_skip hne (by rw [hcons]; exact step_skip b r' m hm (by omega)) (by omega), hdd])
        have HS := Lib.hid hS
        have hm0 : 0 < m := by omega
        clear hS hT hA hx h1 h2 hm hcons hne hdd hdl
        go_wp2_with fail
        refine HS.out.mono ?_
        rintro e w1 ⟨rfl, k1⟩
        go_wp2_with fail
        go_roundw
        case rel => exact ⟨k + m, A, n, c, ts, by go_num, by omega, rfl, ho.next k1, by omega, hx2, kp_trans kw k1⟩
        case measure => simp [intOf]; omega
    · obtain rfl : k = s.size := by omega
      have hR : R = some (saysT ts) := by rw [hx.out, List.drop_eq_nil_of_le (by rw [hlen.out]; exact Nat.le_refl _), lexF_nil]; simp
      subst hR
      clear hx
      go_wp2_with fail
      go_ret2
      exact ⟨A, n, c, 0, rfl, ts, ho, by rw [HA.out], kw⟩
end

/- The document's layer 4: which tokens may be: contract. -/
section
open Go.RowKit
set_option maxRecDepth 100000

theorem eq_tokens (T : TypeId) (hT : T = 58) (k k' : Int) (t t' : ByteArray) (w : World) : (binOp .eql T (.agg #[.int .i64 k, .string t]) (.agg #[.int .i64 k', .string t'])).run Tryz.prog w = .ok (.bool (decide ((⟨k, t⟩ : Tk) = ⟨k', t'⟩))) w := by
  subst hT
  have hf : (Tryz.prog.fieldsOf 58) = (match Tryz.prog.underlying 58 with | some (.struct fs) => fs | _ => #[]) := rfl
  have hu := Tryz.underlying58
  rw [hu] at hf
  rw [run_eql_struct, run_equalIn_agg (P := Tryz.prog) w 9999 _ _ _ (by rw [hf]; exact hu) (by kernel_rfl), hf]
  have h3 := Tryz.underlying3
  have h9 := Tryz.underlying9
  have hz3 := Tryz.sizeOf3
  have hz9 := Tryz.sizeOf9
  have ha3 := Tryz.isAgg3
  have ha9 := Tryz.isAgg9
  have p1 : ∀ (x : Int) (u : ByteArray) (w : World), (part 3 #[.int .i64 x, .string u] 0).run Tryz.prog w = .ok (.int .i64 x) w := fun x u w => by simp [part, hz3, ha3]
  have p2 : ∀ (x : Int) (u : ByteArray) (w : World), (part 9 #[.int .i64 x, .string u] 1).run Tryz.prog w = .ok (.string u) w := fun x u w => by simp [part, hz9, ha9]
  have e1 : ∀ (x y : Int) (w : World), (Op.equalIn 9999 3 (.int .i64 x) (.int .i64 y)).run Tryz.prog w = .ok (x == y) w := fun x y w => run_equalIn_int w 9998 3 .i64 .i64 x y h3
  have e2 : ∀ (x y : ByteArray) (w : World), (Op.equalIn 9999 9 (.string x) (.string y)).run Tryz.prog w = .ok (x.toList == y.toList) w := fun x y w => run_equalIn_string w 9998 9 x y h9
  have ht : t.toList = t'.toList ↔ t = t' := ⟨fun h => text_ext (by rw [← toList_data, ← toList_data, h]), fun h => by rw [h]⟩
  by_cases hk : k = k'
  · by_cases he : t = t'
    · simp [Op.eqFields, p1, p2, e1, e2, hk, he]
    · simp [Op.eqFields, p1, p2, e1, e2, ht, hk, he]
  · simp [Op.eqFields, p1, p2, e1, e2, hk]

theorem neq_tokens (T : TypeId) (hT : T = 58) (k k' : Int) (t t' : ByteArray) (w : World) : (binOp .neq T (.agg #[.int .i64 k, .string t]) (.agg #[.int .i64 k', .string t'])).run Tryz.prog w = .ok (.bool (!decide ((⟨k, t⟩ : Tk) = ⟨k', t'⟩))) w := by
  subst hT
  have hf : (Tryz.prog.fieldsOf 58) = (match Tryz.prog.underlying 58 with | some (.struct fs) => fs | _ => #[]) := rfl
  have hu := Tryz.underlying58
  rw [hu] at hf
  rw [run_neq_struct, run_equalIn_agg (P := Tryz.prog) w 9999 _ _ _ (by rw [hf]; exact hu) (by kernel_rfl), hf]
  have h3 := Tryz.underlying3
  have h9 := Tryz.underlying9
  have hz3 := Tryz.sizeOf3
  have hz9 := Tryz.sizeOf9
  have ha3 := Tryz.isAgg3
  have ha9 := Tryz.isAgg9
  have p1 : ∀ (x : Int) (u : ByteArray) (w : World), (part 3 #[.int .i64 x, .string u] 0).run Tryz.prog w = .ok (.int .i64 x) w := fun x u w => by simp [part, hz3, ha3]
  have p2 : ∀ (x : Int) (u : ByteArray) (w : World), (part 9 #[.int .i64 x, .string u] 1).run Tryz.prog w = .ok (.string u) w := fun x u w => by simp [part, hz9, ha9]
  have e1 : ∀ (x y : Int) (w : World), (Op.equalIn 9999 3 (.int .i64 x) (.int .i64 y)).run Tryz.prog w = .ok (x == y) w := fun x y w => run_equalIn_int w 9998 3 .i64 .i64 x y h3
  have e2 : ∀ (x y : ByteArray) (w : World), (Op.equalIn 9999 9 (.string x) (.string y)).run Tryz.prog w = .ok (x.toList == y.toList) w := fun x y w => run_equalIn_string w 9998 9 x y h9
  have ht : t.toList = t'.toList ↔ t = t' := ⟨fun h => text_ext (by rw [← toList_data, ← toList_data, h]), fun h => by rw [h]⟩
  by_cases hk : k = k'
  · by_cases he : t = t'
    · simp [Op.eqFields, p1, p2, e1, e2, hk, he]
    · simp [Op.eqFields, p1, p2, e1, e2, ht, hk, he]
  · simp [Op.eqFields, p1, p2, e1, e2, hk]

def rrOf : Option (Int × List UInt8 × Nat) → Int → List UInt8 → Bool
  | none, _, _ => false
  | some (k', t, m), k, l => decide (k' = k) && (decide (t = l) && decide (m = l.length))
/-- which tokens may be, as the document tells it -/
def rrightF (k : Int) (l : List UInt8) : Bool :=
  if k = 2 ∨ k = 3 then true
  else if k = 5 then decide (findF l ends2 0 < 0) && decide (trimF l = l)
  else if k ≠ 1 ∧ k ≠ 4 ∧ k ≠ 6 then false
  else if l = [] then false
  else if skipA l 0 ≠ 0 then false
  else rrOf (rtokF l) k l

theorem contains_find (l : List UInt8) : (!Lib.contains l ends2) = decide (findF l ends2 0 < 0) := by
  unfold Lib.contains findF
  rw [List.drop_zero]
  have := Lib.index_ge l ends2
  split
  · rename_i h
    rw [decide_eq_false (by omega)]
    rfl
  · rename_i h
    rw [decide_eq_true (by omega), decide_eq_false (by omega)]
    rfl

theorem skipA_zero (c : UInt8) (r : List UInt8) : skipA (c :: r) 0 = if skipF (c :: r) < 0 then -1 else skipF (c :: r) := by
  unfold skipA
  simp
theorem skip_zero (c : UInt8) (r : List UInt8) (h : skipF (c :: r) = 0) : blankF c = false ∧ isLineF (c :: r) = false := ⟨(step_first c r h).1, (step_first c r h).2.1⟩
theorem skip_plain (c : UInt8) (r : List UInt8) (h1 : blankF c = false) (h2 : begF [47, 42] (c :: r) = false) (h3 : c.toNat ≠ 35) (h4 : begF [45, 45] (c :: r) = false) : skipF (c :: r) = 0 := by
  have hr : isRemarkF (c :: r) = false := by unfold isRemarkF; rw [h2]; rfl
  have hl : isLineF (c :: r) = false := by
    show (decide (c.toNat = 35) || begF [45, 45] (c :: r)) = false
    rw [decide_eq_false h3, h4]
    rfl
  rw [skipF, h1, hr, hl]
  rfl
theorem beg_not {a b c : UInt8} {r : List UInt8} (h : c ≠ a) : begF [a, b] (c :: r) = false := by
  cases hb : begF [a, b] (c :: r) with
  | false => rfl
  | true => exact absurd (beg_two _ _ _ _ hb) h
theorem lod_plain (c : UInt8) (h : lodF c = true) : blankF c = false ∧ c ≠ 47 ∧ c ≠ 45 ∧ c.toNat ≠ 35 := by
  have := by_all (fun c => !lodF c || (!blankF c && (decide (c ≠ 47) && (decide (c ≠ 45) && decide (c.toNat ≠ 35))))) (by decide +kernel) c
  rw [h] at this
  simp only [Bool.not_true, Bool.false_or, Bool.and_eq_true, Bool.not_eq_true', decide_eq_true_eq] at this
  exact this
theorem skip_lod (c : UInt8) (r : List UInt8) (h : lodF c = true) : skipF (c :: r) = 0 := by
  obtain ⟨h1, h2, h3, h4⟩ := lod_plain c h
  exact skip_plain c r h1 (beg_not h2) h4 (beg_not h3)
theorem no_hint {c : UInt8} {r : List UInt8} (h : c ≠ 47) : begF [47, 42, 43] (c :: r) = false := by
  cases hb : begF [47, 42, 43] (c :: r) with
  | false => rfl
  | true => exact absurd (beg_three _ _ _ _ _ hb) h

theorem rtok_letter (c : UInt8) (r : List UInt8) (h : letterF c = true) : rtokF (c :: r) = some (1, greatF ((c :: r).take (runF lodF (c :: r))), runF lodF (c :: r)) := by
  have h47 := (lod_plain c (by simp [lodF, h])).2.1
  rw [rtokF, if_neg (by rw [no_hint h47]; simp), if_pos h]
theorem rtok_digit (c : UInt8) (r : List UInt8) (h0 : letterF c = false) (h : digitF c = true) : rtokF (c :: r) = some (4, (c :: r).take (runF digitF (c :: r)), runF digitF (c :: r)) := by
  have h47 := (lod_plain c (by simp [lodF, h])).2.1
  rw [rtokF, if_neg (by rw [no_hint h47]; simp), if_neg (by simp [h0]), if_pos h]
theorem rtok_other (c : UInt8) (r : List UInt8) (h0 : letterF c = false) (h : digitF c = false) {k : Int} {t : List UInt8} {m : Nat} (hx : rtokF (c :: r) = some (k, t, m)) :
    k = 5 ∨ k = 2 ∨ k = 3 ∨ (k = 6 ∧ t = [c] ∧ m = 1 ∧ 33 ≤ c.toNat ∧ c.toNat ≤ 126 ∧ c.toNat ≠ 34 ∧ c.toNat ≠ 96 ∧ c.toNat ≠ 39) := by
  rw [rtokF] at hx
  split at hx
  · obtain ⟨y, _, hy⟩ := Option.map_eq_some_iff.1 hx
    simp only [Prod.mk.injEq] at hy
    exact .inl hy.1.symm
  rw [h0, h] at hx
  simp only [Bool.false_eq_true, if_false] at hx
  split at hx
  · obtain ⟨y, _, hy⟩ := Option.map_eq_some_iff.1 hx
    simp only [Prod.mk.injEq] at hy
    exact .inr (.inl hy.1.symm)
  split at hx
  · obtain ⟨y, _, hy⟩ := Option.map_eq_some_iff.1 hx
    simp only [Prod.mk.injEq] at hy
    exact .inr (.inr (.inl hy.1.symm))
  split at hx
  · simp only [Option.some.injEq, Prod.mk.injEq] at hx
    obtain ⟨rfl, rfl, rfl⟩ := hx
    refine .inr (.inr (.inr ⟨rfl, rfl, rfl, ?_⟩))
    omega
  · cases hx
theorem digit_no_letter (c : UInt8) (h : digitF c = true) : letterF c = false := by
  have := by_all (fun c => !digitF c || !letterF c) (by decide +kernel) c
  rw [h] at this
  simpa using this

theorem rright_word (c : UInt8) (r : List UInt8) : rrightF 1 (c :: r) = rightWordF (c :: r) := by
  unfold rrightF
  rw [if_neg (by omega), if_neg (by omega), if_neg (by omega), if_neg (by simp), skipA_zero]
  rw [show rightWordF (c :: r) = (letterF c && (decide (runF lodF (c :: r) = (c :: r).length) && decide (greatF (c :: r) = c :: r))) from rfl]
  cases h : letterF c
  · simp only [Bool.false_and]
    by_cases hs : (if skipF (c :: r) < 0 then -1 else skipF (c :: r)) ≠ 0
    · rw [if_pos hs]
    · rw [if_neg hs]
      cases hx : rtokF (c :: r) with
      | none => rfl
      | some x =>
        obtain ⟨k, t, m⟩ := x
        have hk : k ≠ 1 := by
          cases hd : digitF c
          · have := rtok_other c r h hd hx
            omega
          · rw [rtok_digit c r h hd] at hx
            simp only [Option.some.injEq, Prod.mk.injEq] at hx
            omega
        simp only [rrOf]
        rw [decide_eq_false hk]
        rfl
  · rw [skip_lod c r (by simp [lodF, h]), if_neg (by decide), rtok_letter c r h]
    simp only [rrOf, Bool.true_and, decide_true]
    by_cases hn : runF lodF (c :: r) = (c :: r).length
    · rw [decide_eq_true hn, hn, List.take_length, Bool.and_true, Bool.true_and]
    · rw [decide_eq_false hn, Bool.and_false, Bool.false_and]

theorem rright_number (c : UInt8) (r : List UInt8) : rrightF 4 (c :: r) = decide (runF digitF (c :: r) = (c :: r).length) := by
  unfold rrightF
  rw [if_neg (by omega), if_neg (by omega), if_neg (by omega), if_neg (by simp), skipA_zero]
  cases h : digitF c
  · rw [decide_eq_false (by rw [runF_none h]; simp)]
    by_cases hs : (if skipF (c :: r) < 0 then -1 else skipF (c :: r)) ≠ 0
    · rw [if_pos hs]
    · rw [if_neg hs]
      cases hx : rtokF (c :: r) with
      | none => rfl
      | some x =>
        obtain ⟨k, t, m⟩ := x
        have hk : k ≠ 4 := by
          cases hl : letterF c
          · have := rtok_other c r hl h hx
            omega
          · rw [rtok_letter c r hl] at hx
            simp only [Option.some.injEq, Prod.mk.injEq] at hx
            omega
        simp only [rrOf]
        rw [decide_eq_false hk]
        rfl
  · rw [skip_lod c r (by simp [lodF, h]), if_neg (by decide), rtok_digit c r (digit_no_letter c h) h]
    simp only [rrOf, Bool.true_and, decide_true]
    by_cases hn : runF digitF (c :: r) = (c :: r).length
    · rw [decide_eq_true hn, hn, List.take_length, decide_eq_true rfl]
      rfl
    · rw [decide_eq_false hn, Bool.and_false]

theorem sign_parts (c : UInt8) : signF c = true ↔ (33 ≤ c.toNat ∧ c.toNat ≤ 126 ∧ letterF c = false ∧ digitF c = false ∧ c.toNat ≠ 34 ∧ c.toNat ≠ 96 ∧ c.toNat ≠ 39 ∧ c.toNat ≠ 35) := by
  have hs : signF c = (!(decide (c.toNat ≤ 32) || decide (126 < c.toNat) || lodF c) && (decide (c.toNat ≠ 34) && decide (c.toNat ≠ 96) && decide (c.toNat ≠ 39) && decide (c.toNat ≠ 35))) := rfl
  have hl : lodF c = (letterF c || digitF c) := rfl
  rw [hs, hl]
  cases letterF c <;> cases digitF c <;> simp <;> omega
theorem blank_lt (c : UInt8) (h : 33 ≤ c.toNat) : blankF c = false := by
  have := by_all (fun c => decide (c.toNat < 33) || !blankF c) (by decide +kernel) c
  simp only [Bool.or_eq_true, decide_eq_true_eq, Bool.not_eq_true'] at this
  rcases this with h1 | h1
  · omega
  · exact h1

theorem rright_sign (c : UInt8) (r : List UInt8) : rrightF 6 (c :: r) = (match c :: r with | [c] => signF c | _ => false) := by
  unfold rrightF
  rw [if_neg (by omega), if_neg (by omega), if_neg (by omega), if_neg (by simp), skipA_zero]
  by_cases hg : r = [] ∧ signF c = true
  · obtain ⟨rfl, hg⟩ := hg
    obtain ⟨g1, g2, g3, g4, g5, g6, g7, g8⟩ := (sign_parts c).1 hg
    have e1 : ∀ a b : UInt8, begF [a, b] [c] = false := fun a b => by unfold begF Lib.hasPrefix; simp [List.isPrefixOf]
    have e2 : begF [47, 42, 43] [c] = false := by unfold begF Lib.hasPrefix; simp [List.isPrefixOf]
    have hr : rtokF [c] = some (6, [c], 1) := by
      rw [rtokF, e2, g3, g4]
      simp only [Bool.false_eq_true, if_false]
      rw [if_neg (by omega), if_neg g7, if_pos ⟨g1, g2⟩]
    rw [skip_plain c [] (blank_lt c g1) (e1 _ _) g8 (e1 _ _), if_neg (by decide), hr]
    simp [rrOf, hg]
  · have hrhs : (match c :: r with | [c] => signF c | _ => false) = false := by
      cases r with
      | nil => simpa using hg
      | cons _ _ => rfl
    rw [hrhs]
    by_cases hs : (if skipF (c :: r) < 0 then -1 else skipF (c :: r)) ≠ 0
    · rw [if_pos hs]
    · rw [if_neg hs]
      have hs0 : skipF (c :: r) = 0 := by
        rcases Int.lt_or_le (skipF (c :: r)) 0 with h | h
        · rw [if_pos h] at hs; exact absurd (by decide) hs
        · rw [if_neg (by omega)] at hs; omega
      obtain ⟨hb, hln⟩ := skip_zero c r hs0
      have h35 : c.toNat ≠ 35 := by
        intro h
        change (decide (c.toNat = 35) || begF [45, 45] (c :: r)) = false at hln
        rw [decide_eq_true h] at hln
        simp at hln
      cases hx : rtokF (c :: r) with
      | none => rfl
      | some x =>
        obtain ⟨k, t, m⟩ := x
        simp only [rrOf]
        cases hl : letterF c
        · cases hd : digitF c
          · rcases rtok_other c r hl hd hx with h | h | h | ⟨h, ht, hm, h1, h2, h3, h4, h5⟩
            · rw [decide_eq_false (by omega)]; rfl
            · rw [decide_eq_false (by omega)]; rfl
            · rw [decide_eq_false (by omega)]; rfl
            · subst ht
              cases r with
              | nil => exact absurd ⟨rfl, (sign_parts c).2 ⟨h1, h2, hl, hd, h3, h4, h5, h35⟩⟩ hg
              | cons d r => simp
          · rw [rtok_digit c r hl hd] at hx
            simp only [Option.some.injEq, Prod.mk.injEq] at hx
            rw [decide_eq_false (by omega)]
            rfl
        · rw [rtok_letter c r hl] at hx
          simp only [Option.some.injEq, Prod.mk.injEq] at hx
          rw [decide_eq_false (by omega)]
          rfl

theorem rright_right (k : Int) (l : List UInt8) : rrightF k l = rightF k l := by
  by_cases h23 : k = 2 ∨ k = 3
  · unfold rrightF rightF
    rw [if_pos h23, if_neg (by omega), if_pos h23]
  by_cases h5 : k = 5
  · subst h5
    unfold rrightF rightF
    rw [if_neg (by omega), if_pos rfl, if_neg (by omega), if_neg (by omega), if_neg (by omega), if_pos rfl, contains_find]
  by_cases hno : k ≠ 1 ∧ k ≠ 4 ∧ k ≠ 6
  · unfold rrightF rightF
    rw [if_neg h23, if_neg h5, if_pos hno, if_neg hno.1, if_neg h23, if_neg hno.2.1, if_neg h5, if_neg hno.2.2]
  have hk : k = 1 ∨ k = 4 ∨ k = 6 := by omega
  cases l with
  | nil =>
    unfold rrightF
    rw [if_neg h23, if_neg h5, if_neg hno, if_pos rfl]
    rcases hk with rfl | rfl | rfl <;> rfl
  | cons c r =>
    rcases hk with rfl | rfl | rfl
    · exact rright_word c r
    · rw [rright_number]
      show _ = (decide ((c :: r) ≠ []) && decide (runF digitF (c :: r) = (c :: r).length))
      simp
    · exact rright_sign c r
end

/- The document's layer 4: which tokens may be, by the call: contract. -/
section
open Go.RowKit
set_option maxRecDepth 100000

theorem eq_box (s : ByteArray) (k : Int) (w : World) : ∀ u, Below (w.alloc (.cells #[.int .i64 k, .string s] 58)).heap.size (w.alloc (.cells #[.int .i64 k, .string s] 58)) u → u.cell? ⟨w.heap.size, 0, none⟩ = some (.int .i64 k) ∧ u.cell? ⟨w.heap.size, 1, none⟩ = some (.string s) ∧ u.frozen? ⟨w.heap.size, 0, none⟩ = false ∧ u.frozen? ⟨w.heap.size, 1, none⟩ = false := fun u hu => cells2 ((hu.block _ (by simp)).trans (heap_alloc_new w _))

theorem rr_yes {s r2 : ByteArray} {k k2 n2 : Int} {x : Option (Int × List UInt8 × Nat)} (hA : AnsT x 0 k2 r2 n2) (h : k2 = k ∧ r2 = s) : rrOf x k s.data.toList = (n2 == (s.size : Int)) := by
  obtain ⟨rfl, rfl⟩ := h
  have hlen := text_len r2
  cases x with
  | none =>
    obtain rfl : n2 = -1 := hA
    rw [rrOf, eq_comm, beq_eq_false_iff_ne]
    omega
  | some x =>
    obtain ⟨k', t, m⟩ := x
    obtain ⟨rfl, rfl, rfl⟩ := hA
    rw [rrOf, hlen, decide_eq_true rfl, decide_eq_true rfl, Bool.eq_iff_iff]
    simp
    omega
theorem rr_no {s r2 : ByteArray} {k k2 n2 : Int} {x : Option (Int × List UInt8 × Nat)} (hA : AnsT x 0 k2 r2 n2) (h : ¬ (k2 = k ∧ r2 = s)) : rrOf x k s.data.toList = false := by
  cases x with
  | none => rfl
  | some x =>
    obtain ⟨k', t, m⟩ := x
    obtain ⟨rfl, rfl, rfl⟩ := hA
    rw [rrOf]
    by_cases hk : k2 = k
    · rw [decide_eq_false (p := r2.data.toList = s.data.toList) (fun e => h ⟨hk, text_ext e⟩)]
      simp
    · rw [decide_eq_false hk]
      rfl
end

/- What is written of rows of tokens, by package lex: contract. -/
section
open Go.RowKit
set_option maxRecDepth 100000

theorem Bd.next {B b : Nat} {l : List UInt8} {w w' : World} (h : Bd B b l w) (hb : Below w.heap.size w w') : Bd B b l w' :=
  Or.elim h (fun x => .inl (Lib.BuilderAtF.below x hb)) (fun x => .inr (Lib.BuilderAtF.below x hb))
theorem Bd.lt {B b : Nat} {l : List UInt8} {w : World} (h : Bd B b l w) : b < w.heap.size := by
  rcases h with ⟨_, v, hb, _⟩ | ⟨_, v, hb, _⟩
  · exact (Array.getElem?_eq_some_iff.1 hb).1
  · exact (Array.getElem?_eq_some_iff.1 hb).1
theorem Kept.cells {b k : Nat} {w w' : World} {cs : Array Value} {t : TypeId} {fz : Nat × Nat} (h : Kept b w w') (hk : w.heap[k]? = some (.cells cs t fz)) (hkb : k ≠ b) (ht : t ≠ 5) : w'.heap[k]? = some (.cells cs t fz) :=
  h k _ hk (fun e => hkb (Option.some.inj e)) (fun c fz' e => by
    simp only [Obj.cells.injEq] at e
    exact ht e.2.1)

/-- tokens' texts, each with one more byte, are so many bytes -/
def sumT (ts : List Tk) : Nat := (ts.map fun t => t.t.size + 1).sum
theorem sumT_append (a b : List Tk) : sumT (a ++ b) = sumT a + sumT b := by simp [sumT]
theorem sumT_at {ts : List Tk} {k : Nat} (h : k < ts.length) : sumT (ts.take k) + ts[k].t.size + 1 ≤ sumT ts := by
  have e : sumT ts = sumT (ts.take k) + sumT (ts.drop k) := by rw [← sumT_append, List.take_append_drop]
  rw [e, List.drop_eq_getElem_cons h]
  simp only [sumT, List.map_cons, List.sum_cons]
  omega

theorem sumT_len : ∀ ts : List Tk, ts.length ≤ sumT ts
  | [] => Nat.zero_le _
  | t :: r => by
    have := sumT_len r
    simp only [sumT, List.map_cons, List.sum_cons, List.length_cons] at this ⊢
    omega

def writeF : List (Int × List UInt8) → List UInt8
  | [] => []
  | t :: r => writtenF t.1 t.2 ++ r.flatMap fun t => 32 :: writtenF t.1 t.2
theorem writeF_next (l : List (Int × List UInt8)) (x : Int × List UInt8) (h : l ≠ []) : writeF (l ++ [x]) = writeF l ++ [32] ++ writtenF x.1 x.2 := by
  cases l with
  | nil => exact absurd rfl h
  | cons t r => simp [writeF]
theorem writeF_len : ∀ ts : List Tk, (writeF (saysT ts)).length ≤ 8 * sumT ts := by
  have key : ∀ ts : List Tk, ((saysT ts).flatMap fun t => 32 :: writtenF t.1 t.2).length ≤ 8 * sumT ts := by
    intro ts
    induction ts with
    | nil => simp [saysT, sumT]
    | cons t r ih =>
      have h1 := writtenF_length t.k t.t.data.toList
      have h2 := text_len t.t
      simp only [saysT, List.map_cons, List.flatMap_cons, List.length_append, List.length_cons, sumT, List.sum_cons, Tk.says] at ih ⊢
      omega
  intro ts
  cases ts with
  | nil => simp [saysT, writeF, sumT]
  | cons t r =>
    have h1 := writtenF_length t.k t.t.data.toList
    have h2 := text_len t.t
    have h3 := key r
    simp only [saysT, List.map_cons, writeF, List.length_append, sumT, List.sum_cons, Tk.says] at h3 ⊢
    omega

set_option maxHeartbeats 2000000 in
theorem write_ok (A : Option Addr) (n c : Nat) (ts : List Tk) (w : World) (h : TR w A n ts) (hm : sumT ts ≤ 1000000) (hL : Lw w) :
    Calls Tryz.prog 35 #[.slice A n c] w fun e w' => ∃ r : ByteArray, e = .returned (.string r) ∧ r.data.toList = writeF (saysT ts) ∧ Below w.heap.size w w' := by
  have hlen := Lib.hid h.len
  have hn : n ≤ 1000000 := by
    have := sumT_len ts
    have := h.len
    omega
  go_enter Tryz.func35, Tryz.ntmps35
  go_wp2
  go_loopw [8] (fun v8 wr => ∃ (k : Nat), v8 = .int .i64 k ∧ k ≤ n ∧ Bd w.heap.size w.heap.size (writeF (saysT (ts.take k))) wr ∧ Below w.heap.size w wr) (fun v8 _ => n - (intOf v8).toNat)
  case atStart => exact ⟨0, rfl, Nat.zero_le _, Bd.new w w.heap.size (Nat.le_refl _), kp_new _ _⟩
  case round =>
    obtain ⟨k, rfl, hk, hI, kw⟩ := hrel
    by_cases hlt : k < n
    · have hkl : k < ts.length := by rw [hlen.out]; exact hlt
      obtain ⟨ad, rfl, hbl, hcells⟩ := h.at_ hkl
      obtain ⟨c0, c1⟩ := hcells wr kw
      have hsum := sumT_at hkl
      have hwl := writeF_len (ts.take k)
      have hnext : saysT (ts.take (k + 1)) = saysT (ts.take k) ++ [(ts[k].k, ts[k].t.data.toList)] := by
        rw [List.take_succ_eq_append_getElem hkl, saysT_append]; rfl
      have hne : 0 < k → saysT (ts.take k) ≠ [] := fun h0 e => by
        have := congrArg List.length e
        rw [saysT_length, List.length_take, Nat.min_eq_left (by omega)] at this
        exact absurd this (by simp; omega)
      have HW := Lib.hid fun u (hu : Lw u) => written_ok ts[k].k ts[k].t u hu (by omega)
      generalize ts[k].k = kd at *
      generalize ts[k].t = tx at *
      generalize hwk : writeF (saysT (ts.take k)) = wk at hI hwl
      have HN := Lib.hid hnext
      have HNE := Lib.hid hne
      have HWK := Lib.hid hwk
      have hbz := hI.lt
      have hL1 := hL.next kw
      clear hcells hnext hne hwk
      have hI1 := hI.alloc (.cells #[.int .i64 kd, .string tx] 89)
      have kw1 := kp_alloc kw (.cells #[.int .i64 kd, .string tx] 89)
      have hT := heap_alloc_new wr (.cells #[.int .i64 kd, .string tx] 89)
      have hz1 : wr.heap.size < (wr.alloc (.cells #[.int .i64 kd, .string tx] 89)).heap.size := by simp
      have HT := Lib.hid hT
      have HZ := Lib.hid hz1
      clear hT hz1
      by_cases hk0 : k = 0
      · subst hk0
        have hnx : Hid (writeF (saysT (ts.take (0 + 1))) = wk ++ writtenF kd tx.data.toList) := Lib.hid (by
          rw [HN.out, ← HWK.out]
          simp [saysT, writeF])
        have e0 : ad.add (0 * 2) = ad := by unfold Addr.add; simp
        rw [e0] at c0 c1
        clear e0
        obtain ⟨f0, f1, _, _⟩ := cells2 HT.out
        go_wp2_with fail
        refine (HW.out _ (hL1.next (kp_new _ _))).mono ?_
        rintro e w2 ⟨r, rfl, hr, k2⟩
        have hrl : r.size ≤ 2 * tx.size + 7 := by
          have h1 := writtenF_length kd tx.data.toList
          have h2 := text_len tx
          have h3 := text_len r
          rw [hr] at h3
          omega
        have HS := Lib.hid (writeString_s w.heap.size w.heap.size wk r w2 (hI1.next k2) (by omega) (by omega) (by have := kw1.size; have := k2.size; omega))
        go_wp2_with fail
        refine HS.out.mono ?_
        rintro e w3 ⟨rfl, hI3, b3, _⟩
        go_wp2_with fail
        go_roundw
        case rel => exact ⟨0 + 1, by go_num, by omega, by rw [hnx.out, ← hr]; exact hI3, (kp_trans kw1 k2).trans b3⟩
        case measure => simp [intOf]; omega
      · have hnx : Hid (writeF (saysT (ts.take (k + 1))) = wk ++ [32] ++ writtenF kd tx.data.toList) := Lib.hid (by
          rw [HN.out, writeF_next _ _ (HNE.out (by omega)), HWK.out])
        have hW1 := writeByte_s w.heap.size w.heap.size wk 32 _ hI1 (by omega) (by have := kw1.size; omega)
        rw [show (((32 : UInt8).toNat : Nat) : Int) = 32 from rfl] at hW1
        have HW1 := Lib.hid hW1
        have hpos : (0 : Int) < (k : Int) := by omega
        clear hW1
        go_wp2_with fail
        refine HW1.out.mono ?_
        rintro e w2 ⟨rfl, hI2, b2, k2⟩
        obtain ⟨f0, f1, _, _⟩ := cells2 (k2.cells HT.out (by omega) (by decide))
        have kw2 := kw1.trans b2
        go_wp2_with fail
        refine (HW.out _ (hL.next kw2)).mono ?_
        rintro e w3 ⟨r, rfl, hr, k3⟩
        have hrl : r.size ≤ 2 * tx.size + 7 := by
          have h1 := writtenF_length kd tx.data.toList
          have h2 := text_len tx
          have h3 := text_len r
          rw [hr] at h3
          omega
        have HS := Lib.hid (writeString_s w.heap.size w.heap.size (wk ++ [32]) r w3 (hI2.next k3) (by simp; omega) (by omega) (by have := kw2.size; have := k3.size; omega))
        go_wp2_with fail
        refine HS.out.mono ?_
        rintro e w4 ⟨rfl, hI4, b4, _⟩
        go_wp2_with fail
        go_roundw
        case rel => exact ⟨k + 1, by go_num, by omega, by rw [hnx.out, ← hr]; exact hI4, (kp_trans kw2 k3).trans b4⟩
        case measure => simp [intOf]; omega
    · obtain rfl : k = n := by omega
      rw [List.take_of_length_le (by rw [hlen.out]; exact Nat.le_refl _)] at hI
      have HS := Lib.hid (string_s w.heap.size w.heap.size _ wr hI kw.size)
      clear hI
      go_wp2_with fail
      refine HS.out.mono ?_
      rintro e w2 ⟨r, rfl, hr, b2⟩
      go_wp2_with fail
      go_ret
      exact ⟨r, rfl, hr, kw.trans b2⟩
end

/- Rows of tokens: are they the same, are they large, may they be; the statements' own copies of them: contracts. -/
section
open Go.RowKit
set_option maxRecDepth 100000

theorem take_same {α : Type} [DecidableEq α] {xs ys : List α} {k : Nat} (hx : k < xs.length) (hy : k < ys.length) (h : xs.take k = ys.take k) (he : xs[k] = ys[k]) : xs.take (k + 1) = ys.take (k + 1) := by
  rw [List.take_succ_eq_append_getElem hx, List.take_succ_eq_append_getElem hy, h, he]

def mayF (ts : List Tk) : Bool := ts.all fun t => rightF t.k t.t.data.toList
end

/- The calls whose answers the document fixes, at layer 4: they answer so. -/
section
open Go.RowKit
set_option maxRecDepth 100000

theorem lex_a1 : lexF [115, 101, 108, 101, 99, 116, 32, 39, 97, 39, 39, 98, 39, 45, 45, 120] = some [(1, [83, 69, 76, 69, 67, 84]), (3, [97, 39, 98])] := by
  rw [lexF_tok (k := 1) (t := [83, 69, 76, 69, 67, 84]) (n := 6) (by simp) (by kernel_rfl) (by decide)]
  simp only [List.drop_succ_cons, List.drop_zero]
  rw [lexF_skip (n := 1) (by simp) (by kernel_rfl) (by decide)]
  simp only [List.drop_succ_cons, List.drop_zero]
  rw [lexF_tok (k := 3) (t := [97, 39, 98]) (n := 6) (by simp) (by kernel_rfl) (by decide)]
  simp only [List.drop_succ_cons, List.drop_zero]
  rw [lexF_skip (n := 3) (by simp) (by kernel_rfl) (by decide)]
  simp only [List.drop_succ_cons, List.drop_zero]
  rw [lexF_nil]
  rfl
theorem lex_a2 : lexF [39] = none := lexF_bad (by simp) (by kernel_rfl)
theorem lex_a3 : lexF [47, 42, 43, 32, 112, 114, 105, 109, 97, 114, 121, 32, 42, 47, 32, 55] = some [(5, [112, 114, 105, 109, 97, 114, 121]), (4, [55])] := by
  rw [lexF_tok (k := 5) (t := [112, 114, 105, 109, 97, 114, 121]) (n := 14) (by simp) (by kernel_rfl) (by decide)]
  simp only [List.drop_succ_cons, List.drop_zero]
  rw [lexF_skip (n := 1) (by simp) (by kernel_rfl) (by decide)]
  simp only [List.drop_succ_cons, List.drop_zero]
  rw [lexF_tok (k := 4) (t := [55]) (n := 1) (by simp) (by kernel_rfl) (by decide)]
  simp only [List.drop_succ_cons, List.drop_zero]
  rw [lexF_nil]
  rfl
theorem lexA_some {l : List UInt8} {y : List (Int × List UInt8)} (h : lexF l = some y) (hl : l.length ≤ 200) : lexA l = (y, 0) := by
  unfold lexA
  rw [if_neg (by omega), h]
theorem lexA_none {l : List UInt8} (h : lexF l = none) (hl : l.length ≤ 200) : lexA l = ([], 2) := by
  unfold lexA
  rw [if_neg (by omega), h]

theorem row2 (w : World) (e : TypeId) (a b : Tk) : TR (w.alloc (.cells #[.int .i64 a.k, .string a.t, .int .i64 b.k, .string b.t] e)) (some ⟨w.heap.size, 0, none⟩) 2 [a, b] :=
  ⟨rfl, by
    have := Rd.new w e (tkC [a, b])
    simpa [tkC, Tk.cells] using this⟩
end

/- The document's layer 4: what is written of tokens that may be: contract. -/
section
open Go.RowKit
set_option maxRecDepth 100000

theorem right_kind {k : Int} {l : List UInt8} (h : rightF k l = true) : k = 1 ∨ k = 2 ∨ k = 3 ∨ k = 4 ∨ k = 5 ∨ k = 6 := by
  unfold rightF at h
  by_cases h0 : k = 1 ∨ k = 2 ∨ k = 3 ∨ k = 4 ∨ k = 5 ∨ k = 6
  · exact h0
  · rw [if_neg (by omega), if_neg (by omega), if_neg (by omega), if_neg (by omega), if_neg (by omega)] at h
    cases h
end

/- A region that draws its order, gone through once an operation; operations whose guard is known to fail are left out. -/
section
open Go.RowKit

def WantsNot (ops : Array Oper) (a : Act) (o : Oper) : Prop :=
  match o.guard with
  | none => False
  | some (j, b) => ∃ t, dstOf ops j = some t ∧ a.tmps.getD t undef = .bool (!b)

theorem wants_not {ops : Array Oper} {a : Act} {o : Oper} (h : WantsNot ops a o) : Region.wanted o (yielded ops a.tmps) = false := by
  unfold WantsNot at h
  unfold Region.wanted
  split at h
  · cases h
  · rename_i j b hg
    obtain ⟨t, ht, hv⟩ := h
    rw [hg]
    have hlt : t < a.tmps.size := by
      rcases Nat.lt_or_ge t a.tmps.size with h | h
      · exact h
      · rw [Array.getD_eq_getD_getElem?, Array.getElem?_eq_none h] at hv
        simp [undef] at hv
    rw [Array.getD_eq_getD_getElem?, Array.getElem?_eq_getElem hlt] at hv
    simp only [Option.getD_some] at hv
    unfold dstOf at ht
    simp [yielded, ht, Array.getElem?_eq_getElem hlt, hv]

section
variable {P : Program} {ops : Array Oper} {Q : Exit → Act → World → Prop}

/-- what is asked of one operation: that it goes, or that its guard fails -/
def OkOp2 (P : Program) (ops : Array Oper) (Q : Exit → Act → World → Prop) (S : World → Prop) (Sp : Nat → Stb) (a0 : Act) (i : Nat) (o : Oper) : Prop :=
  ∀ a w, StandI ops i a0 a → S w → (∀ t, (waitsFor ops o).contains t = true → (Sp t).p (a.tmps.getD t undef) w) →
    (Wants ops a o ∧ o.wp P a w (Goes S Sp a o.dst w) Q) ∨ (WantsNot ops a o ∧ S w ∧ ∀ t, o.dst = some t → (Sp t).p undef w)

theorem wpAny_specs2 (S : World → Prop) (Sp : Nat → Stb) (a0 : Act) (hok : regOk ops a0.tmps.size = true)
    (each : EachOp (OkOp2 P ops Q S Sp a0) 0 ops.toList)
    (fin : ∀ a w, Stand ops a0 a → S w → (∀ t, (dstsOf ops).contains t = true → (Sp t).p (a.tmps.getD t undef) w) → Q .normal a w) :
    ∀ (fuel : Nat) (listed : Array Bool) (a : Act) (w : World), listed.size = ops.size → ((List.range ops.size).filter fun i => !listed.getD i true).length ≤ fuel →
      Stand ops a0 a → S w → (∀ i d, listed.getD i false = true → dstOf ops i = some d → (Sp d).p (a.tmps.getD d undef) w) →
      (∀ j d, j < ops.size → listed.getD j false = false → dstOf ops j = some d → a.tmps.getD d undef = a0.tmps.getD d undef) →
      (∀ j o, listed.getD j false = true → ops[j]? = some o → ∀ e ∈ o.after, Region.binds .any e = true → listed.getD e.on false = true) → wpAny P .any ops Q fuel listed a w := by
  simp only [regOk, Bool.and_eq_true, List.all_eq_true, decide_eq_true_eq] at hok
  obtain ⟨⟨⟨hdst, hlen⟩, hnd⟩, hlow⟩ := hok
  have hdst' : ∀ o ∈ ops.toList, ∃ d, o.dst = some d ∧ d < a0.tmps.size := fun o ho => by
    have := hdst o ho
    split at this
    · rename_i d hd; exact ⟨d, hd, by simpa using this⟩
    · cases this
  have hget := dsts_getElem (ops := ops) (fun o ho => (hdst' o ho).imp fun d h => h.1)
  have hinj : ∀ i j d, dstOf ops i = some d → dstOf ops j = some d → i = j := fun i j d hi hj => by
    rw [← hget] at hi hj
    obtain ⟨hi1, hi2⟩ := List.getElem?_eq_some_iff.1 hi
    obtain ⟨hj1, hj2⟩ := List.getElem?_eq_some_iff.1 hj
    have hp := List.pairwise_iff_getElem.1 hnd
    rcases Nat.lt_trichotomy i j with h | h | h
    · exact absurd (hi2.trans hj2.symm) (hp i j hi1 hj1 h)
    · exact h
    · exact absurd (hj2.trans hi2.symm) (hp j i hj1 hi1 h)
  have hready0 : ∀ listed : Array Bool, listed.size = ops.size → Region.ready .any ops listed = [] → ∀ i, i < ops.size → listed.getD i false = true := by
    intro listed hsz hr i
    induction i using Nat.strongRecOn with
    | _ i ih =>
      intro hi
      cases hl : listed.getD i false with
      | true => rfl
      | false =>
        exfalso
        have hl2 : listed.getD i true = false := by
          rw [Array.getD_eq_getD_getElem?, Array.getElem?_eq_getElem (by omega)] at hl ⊢; simpa using hl
        have hm : i ∈ Region.ready .any ops listed := by
          unfold Region.ready
          rw [List.mem_filter]
          refine ⟨List.mem_range.2 hi, ?_⟩
          rw [hl2, Array.getElem?_eq_getElem hi]
          simp only [Bool.not_false, Bool.true_and, Option.map_some, Option.getD_some, Array.all_eq_true_iff_forall_mem]
          intro e he
          have h1 := hlow (ops[i], i) (by rw [List.mem_zipIdx_iff_getElem?]; simp [hi])
          simp only [Array.all_eq_true_iff_forall_mem] at h1
          have h2 := h1 e he
          cases hb : Region.binds .any e with
          | false => simp
          | true =>
            rw [hb] at h2
            have h3 : e.on < i := by simpa using h2
            simp [ih e.on h3 (by omega)]
        rw [hr] at hm
        cases hm
  have hfin : ∀ listed a w, listed.size = ops.size → Stand ops a0 a → S w → (∀ i d, listed.getD i false = true → dstOf ops i = some d → (Sp d).p (a.tmps.getD d undef) w) → Region.ready .any ops listed = [] → Q .normal a w := by
    intro listed a w hsz hst hS hsp hr
    refine fin a w hst hS fun t ht => ?_
    obtain ⟨i, hi, he⟩ := List.mem_iff_getElem.1 (List.contains_iff_mem.1 ht)
    have hd : dstOf ops i = some t := by rw [← hget, List.getElem?_eq_getElem hi, he]
    exact hsp i t (hready0 listed hsz hr i (by omega)) hd
  intro fuel
  induction fuel with
  | zero =>
    intro listed a w hsz hc hst hS hsp _ _
    have hr : Region.ready .any ops listed = [] := by
      have h0 : ((List.range ops.size).filter fun i => !listed.getD i true) = [] := List.eq_nil_of_length_eq_zero (by omega)
      unfold Region.ready
      rw [List.filter_eq_nil_iff] at h0 ⊢
      intro i hi
      have := h0 i hi
      simp only [Bool.not_eq_true] at this ⊢
      rw [this, Bool.false_and]
    exact ⟨hr, hfin listed a w hsz hst hS hsp hr⟩
  | succ fuel ih =>
    intro listed a w hsz hc hst hS hsp hun0 hcl
    refine ⟨hfin listed a w hsz hst hS hsp, fun i hi => ?_⟩
    unfold Region.ready at hi
    rw [List.mem_filter, List.mem_range] at hi
    obtain ⟨hilt, hi2⟩ := hi
    rw [Array.getElem?_eq_getElem hilt] at hi2
    simp only [Bool.and_eq_true, Option.map_some, Option.getD_some, Array.all_eq_true_iff_forall_mem] at hi2
    obtain ⟨hun, hdeps⟩ := hi2
    obtain ⟨d, hd, hdl⟩ := hdst' ops[i] (by simp)
    have hdi : dstOf ops i = some d := by unfold dstOf; rw [Array.getElem?_eq_getElem hilt]; exact hd
    have hthis := each.at_ i ops[i] (by simp [hilt])
    rw [Nat.zero_add] at hthis
    have hni : listed.getD i false = false := by
      have hl : listed.getD i true = false := by simpa using hun
      rw [Array.getD_eq_getD_getElem?, Array.getElem?_eq_getElem (by omega)] at hl ⊢
      simpa using hl
    have hold : ∀ t, (laterOf ops i).contains t = true → a.tmps.getD t undef = a0.tmps.getD t undef := fun t ht => by
      unfold laterOf at ht
      obtain ⟨o, ho, hot⟩ := List.mem_filterMap.1 (List.contains_iff_mem.1 ht)
      rw [List.mem_filter] at ho
      obtain ⟨j, hj, hje⟩ := List.mem_iff_getElem.1 ho.1
      have hj' : j < ops.size := by simpa using hj
      have hjo : ops[j]? = some o := by rw [Array.getElem?_eq_getElem hj', ← hje]; simp
      have hdj : dstOf ops j = some t := by unfold dstOf; rw [hjo]; exact hot
      refine hun0 j t hj' ?_ hdj
      rw [Bool.eq_false_iff]
      intro hlj
      obtain ⟨e, he, h2⟩ := Array.any_eq_true'.1 ho.2
      simp only [Bool.and_eq_true, beq_iff_eq] at h2
      have := hcl j o hlj hjo e he h2.1
      rw [h2.2, hni] at this
      cases this
    have hor := hthis a w ⟨hst, hold⟩ hS (fun t ht => by
      unfold waitsFor at ht
      obtain ⟨e, he, het⟩ := List.mem_filterMap.1 (List.contains_iff_mem.1 ht)
      rw [List.mem_filter] at he
      have := hdeps e (by simpa using he.1)
      rw [he.2] at this
      exact hsp e.on t (by simpa using this) het)
    have key : ∀ a' w', Goes S Sp a (ops[i]).dst w a' w' → wpAny P .any ops Q fuel (listed.setIfInBounds i true) a' w' := by
      rintro a' w' ⟨v, rfl, hS', hb, hsp'⟩
      have hval : ((a.put (ops[i]).dst v).tmps.getD d undef) = v := by
        rw [hd]
        simp only [Act.put]
        rw [Array.getD_eq_getD_getElem?, Array.getElem?_setIfInBounds_self_of_lt (by rw [hst.size]; exact hdl)]
        rfl
      have hoth : ∀ t, t ≠ d → (a.put (ops[i]).dst v).tmps.getD t undef = a.tmps.getD t undef := fun t ht => by
        rw [hd]
        simp only [Act.put]
        rw [Array.getD_eq_getD_getElem?, Array.getD_eq_getD_getElem?, Array.getElem?_setIfInBounds_ne (fun h => ht h.symm)]
      have hset : ∀ j, j ≠ i → (listed.setIfInBounds i true).getD j false = listed.getD j false := fun j hji => by
        rw [Array.getD_eq_getD_getElem?, Array.getElem?_setIfInBounds_ne (fun h => hji h.symm), ← Array.getD_eq_getD_getElem?]
      have hseti : (listed.setIfInBounds i true).getD i false = true := by
        rw [Array.getD_eq_getD_getElem?, Array.getElem?_setIfInBounds_self_of_lt (by omega)]; rfl
      refine ih _ _ _ (by simp [hsz]) ?_ ⟨by rw [hd]; simp [Act.put, hst.size], by rw [hd]; simp [Act.put, hst.defers], fun t ht => ?_⟩ hS' (fun j dj hj hdj => ?_) (fun j dj hj hlj hdj => ?_) (fun j o hlj hjo e he hb2 => ?_)
      · have hl : listed.getD i true = false := by simpa using hun
        have := filter_lt (l := List.range ops.size) (p := fun j => !listed.getD j true) (q := fun j => !(listed.setIfInBounds i true).getD j true) (fun x hx => by
          by_cases hxi : i = x
          · subst hxi
            rw [Array.getD_eq_getD_getElem?, Array.getElem?_setIfInBounds_self_of_lt (by omega)] at hx
            simp at hx
          · rw [Array.getD_eq_getD_getElem?, Array.getElem?_setIfInBounds_ne hxi, ← Array.getD_eq_getD_getElem?] at hx
            exact hx) (i := i) (List.mem_range.2 hilt) (by simp [hl]) (by
            rw [Array.getD_eq_getD_getElem?, Array.getElem?_setIfInBounds_self_of_lt (by omega)]; simp)
        omega
      · rw [hoth t, hst.out t ht]
        rintro rfl
        have : (dstsOf ops).contains t = true := List.contains_iff_mem.2 (List.mem_of_getElem? (by rw [hget, hdi]))
        rw [this] at ht
        cases ht
      · by_cases hji : j = i
        · subst hji
          rw [hdi] at hdj
          injection hdj with hdj
          subst hdj
          rw [hval]
          exact hsp' d hd
        · have hne : dj ≠ d := fun e => hji (hinj j i d (e ▸ hdj) hdi)
          rw [hoth dj hne]
          refine (Sp dj).st _ _ _ (hsp j dj ?_ hdj) hb
          rw [Array.getD_eq_getD_getElem?, Array.getElem?_setIfInBounds_ne (fun h => hji h.symm), ← Array.getD_eq_getD_getElem?] at hj
          exact hj
      · have hji : j ≠ i := fun h => by rw [h, hseti] at hlj; cases hlj
        rw [hset j hji] at hlj
        rw [hoth dj (fun e => hji (hinj j i d (e ▸ hdj) hdi))]
        exact hun0 j dj hj hlj hdj
      · have hon : listed.getD e.on false = true := by
          by_cases hji : j = i
          · subst hji
            rw [Array.getElem?_eq_getElem hilt] at hjo
            injection hjo with hjo
            subst hjo
            have := hdeps e he
            rw [hb2] at this
            simpa using this
          · rw [hset j hji] at hlj
            exact hcl j o hlj hjo e he hb2
        by_cases hei : e.on = i
        · rw [hei]; exact hseti
        · rw [hset _ hei]; exact hon
    unfold wpOp
    simp only [Array.getElem?_eq_getElem hilt]
    rcases hor with ⟨hw, hwp⟩ | ⟨hw, hS', hsp'⟩
    · simp only [wants hw, if_true]
      exact .inl (Oper.wp_mono (fun a' w' h => key a' w' h) hwp)
    · rw [wants_not hw]
      simp only [Bool.false_eq_true, if_false]
      exact key _ _ ⟨undef, rfl, hS', Below.refl _ _, hsp'⟩

theorem wp_region_specs2 {id : Nat} {a0 : Act} {w0 : World} (S : World → Prop) (Sp : List (Nat × Stb)) (hm : P.follows .mixedOrders = true) (hok : regOk ops a0.tmps.size = true) (hS : S w0.drew)
    (each : EachOp (OkOp2 P ops Q S (Stb.find Sp) a0) 0 ops.toList)
    (fin : ∀ a w, Stand ops a0 a → S w → (∀ t, (dstsOf ops).contains t = true → (Stb.find Sp t).p (a.tmps.getD t undef) w) → Q .normal a w) :
    (Code.region id ops true).wp P Q a0 w0 :=
  wp_region_any hm (wpAny_specs2 S (Stb.find Sp) a0 hok each fin _ _ _ _ (by simp) (by
    refine Nat.le_trans (List.length_filter_le _ _) (by simp)) ⟨rfl, rfl, fun _ _ => rfl⟩ hS (fun i d h => by
    exfalso
    rw [Array.getD_eq_getD_getElem?, Array.getElem?_replicate] at h
    split at h <;> simp at h) (fun _ _ _ _ _ => rfl) (fun j o h => by
    exfalso
    rw [Array.getD_eq_getD_getElem?, Array.getElem?_replicate] at h
    split at h <;> simp at h))
end
end

/- LexTells: the tokens of any statement, whether any token may be, and what is written of tokens are as the document says: the walk. -/
section
open Go.RowKit
set_option maxRecDepth 100000

theorem step_size {l : List UInt8} (h : l ≠ []) : (∀ m, stepF l = .skip m → m ≤ l.length) ∧ ∀ k t m, stepF l = .tok k t m → m ≤ l.length := by
  cases l with
  | nil => exact absurd rfl h
  | cons c r =>
    rw [stepF]
    by_cases h1 : blankF c = true
    · rw [if_pos h1]
      exact ⟨fun m e => by injection e with e; simp; omega, fun k t m e => by cases e⟩
    rw [if_neg h1]
    by_cases h2 : isLineF (c :: r) = true
    · rw [if_pos h2]
      refine ⟨fun m e => ?_, fun k t m e => by cases e⟩
      injection e with e
      subst e
      unfold lineF
      split
      · exact Nat.le_refl _
      · have := indexByte_lt (l := c :: r) (c := 10) (by omega)
        omega
    rw [if_neg h2]
    by_cases h3 : isRemarkF (c :: r) = true
    · rw [if_pos h3]
      have h2a : begF [47, 42] (c :: r) = true := by
        unfold isRemarkF at h3
        simp only [Bool.and_eq_true] at h3
        exact h3.1
      have h5 := (List.isPrefixOf_iff_prefix.1 h2a).length_le
      have := (closedF_le (c :: r) 2 (by simpa using h5)).1
      split
      · exact ⟨fun m e => (by cases e), fun k t m e => by cases e⟩
      · exact ⟨fun m e => (by injection e with e; omega), fun k t m e => by cases e⟩
    rw [if_neg h3]
    cases hf : firstF (c :: r) with
    | none => exact ⟨fun m e => (by cases e), fun k t m e => by cases e⟩
    | some x =>
      obtain ⟨k, t, n⟩ := x
      have := (firstF_size k t n hf).2
      refine ⟨fun m e => (by cases e), fun k' t' m e => ?_⟩
      simp only [Step.tok.injEq] at e
      omega
theorem lexF_len : ∀ (n : Nat) (l : List UInt8) (x : List (Int × List UInt8)), l.length ≤ n → lexF l = some x → x.length ≤ l.length := by
  intro n
  induction n with
  | zero =>
    intro l x hl h
    obtain rfl : l = [] := List.eq_nil_of_length_eq_zero (by omega)
    rw [lexF_nil] at h
    injection h with h
    subst h
    exact Nat.le_refl _
  | succ n ih =>
    intro l x hl h
    by_cases hne : l = []
    · subst hne
      rw [lexF_nil] at h
      injection h with h
      subst h
      exact Nat.le_refl _
    obtain ⟨hs1, hs2⟩ := step_size hne
    cases hst : stepF l with
    | bad => rw [lexF_bad hne hst] at h; cases h
    | skip m =>
      by_cases hm : m = 0
      · rw [lexF, dif_neg hne, hst] at h
        simp [hm] at h
      · rw [lexF_skip hne hst hm] at h
        have := ih (l.drop m) x (by rw [List.length_drop]; omega) h
        rw [List.length_drop] at this
        omega
    | tok k t m =>
      have hml := hs2 k t m hst
      by_cases hm : m = 0
      · rw [lexF, dif_neg hne, hst] at h
        simp [hm] at h
      · rw [lexF_tok hne hst hm] at h
        obtain ⟨y, hy, rfl⟩ := Option.map_eq_some_iff.1 h
        have := ih (l.drop m) y (by rw [List.length_drop]; omega) hy
        rw [List.length_drop] at this
        simp
        omega
theorem lexA_len (l : List UInt8) : (lexA l).1.length ≤ 200 := by
  unfold lexA
  split
  · simp
  · cases h : lexF l with
    | none => simp
    | some x =>
      have := lexF_len l.length l x (Nat.le_refl _) h
      simp
      omega

/-- a row of tokens, as a fact of a value -/
def trStb (n : Nat) (ts : List Tk) : Stb := ⟨fun v u => ∃ B d, v = .slice B n d ∧ TR u B n ts, fun _ _ _ ⟨B, d, h, r⟩ hb => ⟨B, d, h, r.next hb⟩⟩

theorem sumT_mem {ts : List Tk} {t : Tk} (h : t ∈ ts) : t.t.size ≤ sumT ts := by
  obtain ⟨k, hk, rfl⟩ := List.mem_iff_getElem.1 h
  have := sumT_at hk
  omega
end

/- What tokens are, as a statement: plain functions of lists of tokens (no function of the program is named here). -/
section
abbrev Tok := Int × List UInt8

def stopF (t : Tok) : Bool := decide (t.1 = 6) && decide (t.2 = [59])
def isHintF (t : Tok) : Bool := decide (t.1 = 5)
def wordF (ws : List (List UInt8)) (t : Tok) : Bool := decide (t.1 = 1) && decide (t.2 ∈ ws)
def hasF (l : List Tok) (ws : List (List UInt8)) : Bool := l.any (wordF ws)
def headF (l : List Tok) (ws : List (List UInt8)) : Bool := (l.head?.map (wordF ws)).getD false
def bareF (l : List Tok) (ws : List (List UInt8)) : Bool := decide (l.length = 0) || (decide (l.length = 1) && headF l ws)

/- the words -/
def wSHOW : List UInt8 := [83, 72, 79, 87]
def wDESCRIBE : List UInt8 := [68, 69, 83, 67, 82, 73, 66, 69]
def wDESC : List UInt8 := [68, 69, 83, 67]
def wEXPLAIN : List UInt8 := [69, 88, 80, 76, 65, 73, 78]
def wINSERT : List UInt8 := [73, 78, 83, 69, 82, 84]
def wUPDATE : List UInt8 := [85, 80, 68, 65, 84, 69]
def wDELETE : List UInt8 := [68, 69, 76, 69, 84, 69]
def wREPLACE : List UInt8 := [82, 69, 80, 76, 65, 67, 69]
def wCREATE : List UInt8 := [67, 82, 69, 65, 84, 69]
def wDROP : List UInt8 := [68, 82, 79, 80]
def wALTER : List UInt8 := [65, 76, 84, 69, 82]
def wTRUNCATE : List UInt8 := [84, 82, 85, 78, 67, 65, 84, 69]
def wGRANT : List UInt8 := [71, 82, 65, 78, 84]
def wREVOKE : List UInt8 := [82, 69, 86, 79, 75, 69]
def wCALL : List UInt8 := [67, 65, 76, 76]
def wLOCK : List UInt8 := [76, 79, 67, 75]
def wSELECT : List UInt8 := [83, 69, 76, 69, 67, 84]
def wVALUES : List UInt8 := [86, 65, 76, 85, 69, 83]
def wTABLE : List UInt8 := [84, 65, 66, 76, 69]
def wWITH : List UInt8 := [87, 73, 84, 72]
def wBEGIN : List UInt8 := [66, 69, 71, 73, 78]
def wSTART : List UInt8 := [83, 84, 65, 82, 84]
def wCOMMIT : List UInt8 := [67, 79, 77, 77, 73, 84]
def wROLLBACK : List UInt8 := [82, 79, 76, 76, 66, 65, 67, 75]
def wSET : List UInt8 := [83, 69, 84]
def wINTO : List UInt8 := [73, 78, 84, 79]
def wSHARE : List UInt8 := [83, 72, 65, 82, 69]
def wWORK : List UInt8 := [87, 79, 82, 75]
def wTRANSACTION : List UInt8 := [84, 82, 65, 78, 83, 65, 67, 84, 73, 79, 78]
def wANALYZE : List UInt8 := [65, 78, 65, 76, 89, 90, 69]
def wANALYSE : List UInt8 := [65, 78, 65, 76, 89, 83, 69]
def wAUTOCOMMIT : List UInt8 := [65, 85, 84, 79, 67, 79, 77, 77, 73, 84]
def wGLOBAL : List UInt8 := [71, 76, 79, 66, 65, 76]
def wPERSIST : List UInt8 := [80, 69, 82, 83, 73, 83, 84]

/-- the words that begin statements, and their families -/
def famL : List (List UInt8 × Int) :=
  [(wSHOW, 1), (wDESCRIBE, 1), (wDESC, 1), (wEXPLAIN, 2), (wINSERT, 3), (wUPDATE, 3), (wDELETE, 3), (wREPLACE, 3), (wCREATE, 3), (wDROP, 3), (wALTER, 3), (wTRUNCATE, 3), (wGRANT, 3), (wREVOKE, 3), (wCALL, 3), (wLOCK, 3),
   (wSELECT, 4), (wVALUES, 4), (wTABLE, 4), (wWITH, 5), (wBEGIN, 6), (wSTART, 7), (wCOMMIT, 8), (wROLLBACK, 9), (wSET, 10)]
def famF (x : List UInt8) : Int := ((famL.reverse.find? fun p => decide (p.1 = x)).map Prod.snd).getD 0

def six : List (List UInt8) := [wINSERT, wUPDATE, wDELETE, wREPLACE, wINTO, wSHARE]
def selF (rest : List Tok) (reads : Bool) : Int := if hasF rest six then 2 else if reads then 1 else 7
def ifF (c : Int) (b : Bool) : Int := if b then c else 7

/-- an EXPLAIN's class, of what is behind it, and of that's class -/
def exF (rest : List Tok) (c : Int) : Int := if headF rest [wANALYZE, wANALYSE] then (if c = 2 then 2 else if c = 7 then 7 else 1) else 1
/-- the class by the family of the first word -/
def famB (v : Int) (rest : List Tok) (ex : Int) : Int :=
  if v = 1 then 1
  else if v = 2 then ex
  else if v = 3 then 2
  else if v = 4 then selF rest true
  else if v = 5 then selF rest (hasF rest [wSELECT])
  else if v = 6 then ifF 3 (bareF rest [wWORK, wTRANSACTION])
  else if v = 7 then ifF 3 (headF rest [wTRANSACTION])
  else if v = 8 then ifF 4 (bareF rest [wWORK])
  else if v = 9 then ifF 5 (bareF rest [wWORK])
  else if v = 10 then ifF 6 (!headF rest [wAUTOCOMMIT, wGLOBAL, wPERSIST])
  else 7
/-- the class of tokens -/
def classF : List Tok → Int
  | [] => 7
  | t :: rest => if decide (t.1 ≠ 1) || (t :: rest).any stopF then 7 else famB (famF t.2) rest (exF rest (classF (rest.drop 1)))
termination_by l => l.length
decreasing_by
  simp only [List.length_drop, List.length_cons]
  omega
theorem classF_nil : classF [] = 7 := by rw [classF]
theorem classF_no {t : Tok} {r : List Tok} (h : t.1 ≠ 1 ∨ (t :: r).any stopF = true) : classF (t :: r) = 7 := by
  rw [classF]
  have : (decide (t.1 ≠ 1) || (t :: r).any stopF) = true := by
    rcases h with h | h
    · rw [decide_eq_true h]; rfl
    · rw [h]; simp
  rw [this, if_pos rfl]
theorem classF_word {t : Tok} {r : List Tok} (h : t.1 = 1) (hs : (t :: r).any stopF = false) : classF (t :: r) = famB (famF t.2) r (exF r (classF (r.drop 1))) := by
  rw [classF]
  have : (decide (t.1 ≠ 1) || (t :: r).any stopF) = false := by
    rw [hs, decide_eq_false (by simpa using h)]; rfl
  rw [this]
  rfl

/-- without the signs that end it -/
def endF (l : List Tok) : List Tok := (l.reverse.dropWhile stopF).reverse
theorem endF_nil : endF [] = [] := rfl
theorem endF_stop {l : List Tok} {t : Tok} (h : stopF t = true) : endF (l ++ [t]) = endF l := by simp [endF, h]
theorem endF_last {l : List Tok} {t : Tok} (h : stopF t = false) : endF (l ++ [t]) = l ++ [t] := by simp [endF, h]
def bodyF (l : List Tok) : List Tok := endF (l.filter fun t => !isHintF t)
/-- where it asks to go -/
def asksF : List Tok → Int
  | [] => 0
  | t :: r => if t.1 = 5 ∧ t.2 = [112, 114, 105, 109, 97, 114, 121] then 1 else if t.1 = 5 ∧ t.2 = [114, 101, 112, 108, 105, 99, 97] then 2 else asksF r
end

/- What lexed tokens are like: how long, and words have no blank (no function of the program is named here). -/
section
open Go.RowKit
set_option maxRecDepth 100000

theorem trimF_le (l : List UInt8) : (trimF l).length ≤ l.length := by
  unfold trimF Lib.trimS Lib.trimLeftS Lib.trimRightS
  have h1 := (List.dropWhile_sublist (fun x => blanks4.contains x) (l := (l.reverse.dropWhile (fun x => blanks4.contains x)).reverse)).length_le
  have h2 := (List.dropWhile_sublist (fun x => blanks4.contains x) (l := l.reverse)).length_le
  simp only [List.length_reverse] at h1 h2
  omega

/-- what the first token is like -/
def okTok (t : Tok) (n : Nat) : Prop := t.2.length ≤ n ∧ (t.1 = 1 → t.2 ≠ [] ∧ (32 : UInt8) ∉ t.2)

theorem up_blank (c : UInt8) (h : lodF c = true) : upF c ≠ 32 := by
  have := by_all (fun c => !lodF c || decide (upF c ≠ 32)) (by decide +kernel) c
  rw [h] at this
  simpa using this

theorem firstF_ok {l : List UInt8} {k : Nat} {t : List UInt8} {n : Nat} (h : firstF l = some (k, t, n)) : okTok ((k : Int), t) l.length := by
  cases l with
  | nil => simp [firstF] at h
  | cons c r =>
    have hsz := (firstF_size k t n h).2
    simp only [firstF] at h
    unfold okTok
    split at h
    · rename_i hc
      simp only [Option.some.injEq, Prod.mk.injEq] at h
      obtain ⟨rfl, rfl, rfl⟩ := h
      have hl : lodF c = true := by simp [lodF, hc]
      refine ⟨by simp [greatF]; omega, fun _ => ⟨?_, ?_⟩⟩
      · rw [runF_some hl]
        simp [greatF]
      · unfold greatF
        intro hm
        obtain ⟨b, hb, e⟩ := List.mem_map.1 hm
        exact up_blank b (runF_all lodF _ b hb) e
    split at h
    · simp only [Option.some.injEq, Prod.mk.injEq] at h
      obtain ⟨rfl, rfl, rfl⟩ := h
      exact ⟨by simp; omega, fun e => by simp at e⟩
    split at h
    · obtain ⟨x, hx, h⟩ := Option.map_eq_some_iff.1 h
      have := quotedF_le hx
      simp only [Prod.mk.injEq] at h
      obtain ⟨rfl, rfl, rfl⟩ := h
      exact ⟨by simp; omega, fun e => by simp at e⟩
    split at h
    · obtain ⟨x, hx, h⟩ := Option.map_eq_some_iff.1 h
      have := quotedF_le hx
      simp only [Prod.mk.injEq] at h
      obtain ⟨rfl, rfl, rfl⟩ := h
      exact ⟨by simp; omega, fun e => by simp at e⟩
    split at h
    · split at h
      · cases h
      · simp only [Option.some.injEq, Prod.mk.injEq] at h
        obtain ⟨rfl, rfl, rfl⟩ := h
        refine ⟨?_, fun e => by simp at e⟩
        have := trimF_le (((c :: r).take (closedF (c :: r) 3 - 2)).drop 3)
        simp only [List.length_drop, List.length_take] at this ⊢
        omega
    split at h
    · simp only [Option.some.injEq, Prod.mk.injEq] at h
      obtain ⟨rfl, rfl, rfl⟩ := h
      exact ⟨by simp, fun e => by simp at e⟩
    · cases h

theorem step_tok {l : List UInt8} {k : Nat} {t : List UInt8} {n : Nat} (h : stepF l = .tok k t n) : firstF l = some (k, t, n) := by
  cases l with
  | nil => simp [stepF] at h
  | cons c r =>
    rw [stepF] at h
    split at h
    · cases h
    split at h
    · cases h
    split at h
    · split at h <;> cases h
    · split at h
      · cases h
      · rename_i hf
        simp only [Step.tok.injEq] at h
        obtain ⟨rfl, rfl, rfl⟩ := h
        exact hf

theorem lexF_ok : ∀ (n : Nat) (l : List UInt8) (x : List Tok), l.length ≤ n → lexF l = some x → ∀ t ∈ x, okTok t l.length := by
  intro n
  induction n with
  | zero =>
    intro l x hl h
    obtain rfl : l = [] := List.eq_nil_of_length_eq_zero (by omega)
    rw [lexF_nil] at h
    injection h with h
    subst h
    simp
  | succ n ih =>
    intro l x hl h
    by_cases hne : l = []
    · subst hne
      rw [lexF_nil] at h
      injection h with h
      subst h
      simp
    cases hst : stepF l with
    | bad => rw [lexF_bad hne hst] at h; cases h
    | skip m =>
      by_cases hm : m = 0
      · rw [lexF, dif_neg hne, hst] at h
        simp [hm] at h
      · rw [lexF_skip hne hst hm] at h
        have hl0 := List.length_pos_iff.2 hne
        intro t ht
        have := ih (l.drop m) x (by rw [List.length_drop]; omega) h t ht
        rw [List.length_drop] at this
        exact ⟨by have := this.1; omega, this.2⟩
    | tok k t m =>
      by_cases hm : m = 0
      · rw [lexF, dif_neg hne, hst] at h
        simp [hm] at h
      · rw [lexF_tok hne hst hm] at h
        obtain ⟨y, hy, rfl⟩ := Option.map_eq_some_iff.1 h
        have hl0 := List.length_pos_iff.2 hne
        intro t' ht'
        rcases List.mem_cons.1 ht' with rfl | ht'
        · exact firstF_ok (step_tok hst)
        · have := ih (l.drop m) y (by rw [List.length_drop]; omega) hy t' ht'
          rw [List.length_drop] at this
          exact ⟨by have := this.1; omega, this.2⟩
theorem lexA_ok (l : List UInt8) : ∀ t ∈ (lexA l).1, okTok t 200 := by
  unfold lexA
  split
  · simp
  · cases h : lexF l with
    | none => simp
    | some x =>
      intro t ht
      have := lexF_ok l.length l x (Nat.le_refl _) h t ht
      exact ⟨by have := this.1; omega, this.2⟩

/-- a statement's class, and where it asks to go -/
def classA (l : List UInt8) : Int := if (lexA l).2 = 0 then classF (bodyF (lexA l).1) else 0
def asksA (l : List UInt8) : Int := asksF (lexA l).1
theorem lexA_err (l : List UInt8) (h : (lexA l).2 ≠ 0) : (lexA l).1 = [] := by
  unfold lexA at h ⊢
  by_cases h2 : 200 < l.length
  · rw [if_pos h2]
  · rw [if_neg h2] at h ⊢
    cases hf : lexF l with
    | none => rfl
    | some x => rw [hf] at h; exact absurd rfl h
end
end Go.Proofs.YtaimmdhjfccnkaaGreatDoor
