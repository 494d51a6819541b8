/-
  Tables: rows of pairs as they lie in memory, their order, what is read of them and written to them: plain functions (no function of the program is named here).
-/
import Derived.Test.YtkkmjoadhjnldaaDoorWide
namespace Go.Proofs.YtkkmjoadhjnldaaDoor
open Go.RowKit
set_option maxRecDepth 100000

/- texts by their bytes -/
theorem bytes_ext {s t : ByteArray} (h : s.toList = t.toList) : s = t := by
  rw [ByteArray.toList_eq, ByteArray.toList_eq] at h
  cases s; cases t
  simp only [ByteArray.mk.injEq]
  exact Array.toList_inj.1 h
theorem rd_own2 {w : World} {A : Option Addr} {xs : List Value} {base n c : Nat} {e : TypeId} (h : w.ownsRow base e 2 (.slice A n c) n xs) : Rd w w.heap.size A xs := by
  rcases h.2 with ⟨_, hn⟩ | ⟨g, cap, cur, hv, _, hg, _⟩
  · exact .inl (List.eq_nil_of_length_eq_zero (by have := h.1; omega))
  · have hA : A = some ⟨g, 0, none⟩ := by injection hv
    subst hA
    exact .inr ⟨_, rfl, (Array.getElem?_eq_some_iff.1 hg).1, h.cells (g := g) rfl⟩
def ltB (a b : ByteArray) : Bool := Op.bytesLess a.toList b.toList
theorem less_irrefl : ∀ a : List UInt8, Op.bytesLess a a = false
  | [] => rfl
  | x :: r => by
    rw [Op.bytesLess, less_irrefl r]
    simp
theorem less_total : ∀ a b : List UInt8, Op.bytesLess a b = false → Op.bytesLess b a = false → a = b
  | [], [], _, _ => rfl
  | [], _ :: _, h, _ => by simp [Op.bytesLess] at h
  | _ :: _, [], _, h => by simp [Op.bytesLess] at h
  | x :: a, y :: b, h, k => by
    simp only [Op.bytesLess, Bool.or_eq_false_iff, decide_eq_false_iff_not, Bool.and_eq_false_iff, beq_eq_false_iff_ne] at h k
    have e : x = y := by
      have h1 := h.1
      have h2 := k.1
      rw [UInt8.lt_iff_toNat_lt] at h1 h2
      exact UInt8.toNat_inj.1 (by omega)
    subst e
    rcases h.2 with h' | h'
    · exact absurd rfl h'
    rcases k.2 with k' | k'
    · exact absurd rfl k'
    rw [less_total a b h' k']
theorem less_trans : ∀ a b c : List UInt8, Op.bytesLess a b = true → Op.bytesLess b c = true → Op.bytesLess a c = true
  | _, [], _, h, _ => by simp [Op.bytesLess] at h
  | _, _ :: _, [], _, h => by simp [Op.bytesLess] at h
  | [], _ :: _, _ :: _, _, _ => rfl
  | x :: a, y :: b, z :: c, h, k => by
    simp only [Op.bytesLess, Bool.or_eq_true, decide_eq_true_eq, Bool.and_eq_true, beq_iff_eq] at h k ⊢
    rcases h with h | ⟨rfl, h⟩
    · rcases k with k | ⟨rfl, _⟩
      · exact .inl (by rw [UInt8.lt_iff_toNat_lt] at h k ⊢; omega)
      · exact .inl h
    · rcases k with k | ⟨rfl, k⟩
      · exact .inl k
      · exact .inr ⟨rfl, less_trans a b c h k⟩
theorem ltB_irrefl (a : ByteArray) : ltB a a = false := less_irrefl _
theorem ltB_total {a b : ByteArray} (h : ltB a b = false) (k : ltB b a = false) : a = b := bytes_ext (less_total _ _ h k)
theorem ltB_trans {a b c : ByteArray} (h : ltB a b = true) (k : ltB b c = true) : ltB a c = true := less_trans _ _ _ h k
theorem ltB_asymm {a b : ByteArray} (h : ltB a b = true) : ltB b a = false := by
  cases k : ltB b a with
  | false => rfl
  | true => rw [← ltB_irrefl a, ← ltB_trans h k]
theorem ltB_ne {a b : ByteArray} (h : ltB a b = true) : a ≠ b := fun e => by rw [e, ltB_irrefl] at h; cases h

/-- a key, its value -/
structure Kv where
  k : ByteArray
  v : ByteArray
deriving DecidableEq
instance : Inhabited Kv := ⟨⟨⟨#[]⟩, ⟨#[]⟩⟩⟩
def Kv.cells (t : Kv) : List Value := [.string t.k, .string t.v]
def kvC (ts : List Kv) : List Value := ts.flatMap Kv.cells
theorem kvC_length : ∀ ts : List Kv, (kvC ts).length = ts.length * 2
  | [] => rfl
  | r :: rs => by
    have := kvC_length rs
    simp only [kvC, List.flatMap_cons, List.length_append, List.length_cons, Kv.cells, List.length_nil] at this ⊢
    omega
theorem kvC_append (a b : List Kv) : kvC (a ++ b) = kvC a ++ kvC b := by simp [kvC]
theorem kvC_at : ∀ (rs : List Kv) (j : Nat) (h : j < rs.length), (kvC rs)[j * 2]? = some (.string rs[j].k) ∧ (kvC rs)[j * 2 + 1]? = some (.string rs[j].v)
  | [], _, h => by simp at h
  | r :: rs, 0, _ => by simp [kvC, Kv.cells]
  | r :: rs, j + 1, h => by
    have := kvC_at rs j (by simpa using h)
    have e1 : (j + 1) * 2 = j * 2 + 2 := by omega
    simp only [kvC, List.flatMap_cons] at this ⊢
    rw [e1]
    simpa [Kv.cells] using this
theorem kvC_next (rs : List Kv) (k : Nat) (h : k < rs.length) : kvC (rs.take (k + 1)) = kvC (rs.take k) ++ [.string rs[k].k, .string rs[k].v] := by
  rw [List.take_succ_eq_append_getElem h, kvC_append]
  simp [kvC, Kv.cells]
theorem kvC_take : ∀ (rs : List Kv) (k : Nat), kvC (rs.take k) = (kvC rs).take (k * 2)
  | _, 0 => by simp [kvC]
  | [], k + 1 => by simp [kvC]
  | r :: rs, k + 1 => by
    have := kvC_take rs k
    have e1 : (k + 1) * 2 = k * 2 + 2 := by omega
    rw [List.take_succ_cons]
    simp only [kvC, List.flatMap_cons] at this ⊢
    rw [this, e1]
    simp [Kv.cells]
theorem kvC_drop : ∀ (rs : List Kv) (k : Nat), kvC (rs.drop k) = (kvC rs).drop (k * 2)
  | _, 0 => by simp [kvC]
  | [], k + 1 => by simp [kvC]
  | r :: rs, k + 1 => by
    have := kvC_drop rs k
    have e1 : (k + 1) * 2 = k * 2 + 2 := by omega
    rw [List.drop_succ_cons]
    simp only [kvC, List.flatMap_cons] at this ⊢
    rw [this, e1]
    simp [Kv.cells]
theorem kvC_one (rs : List Kv) : ∀ u ∈ kvC rs, u.oneCell' = true := by
  intro u hu
  simp only [kvC, List.mem_flatMap] at hu
  obtain ⟨r, _, h⟩ := hu
  simp only [Kv.cells, List.mem_cons, List.not_mem_nil, or_false] at h
  rcases h with rfl | rfl <;> rfl

/-- a row of pairs that is read -/
structure KR (w : World) (A : Option Addr) (n : Nat) (ts : List Kv) : Prop where
  len : ts.length = n
  rd : Rd w w.heap.size A (kvC ts)
theorem KR.next {w w' : World} {A : Option Addr} {n : Nat} {ts : List Kv} (h : KR w A n ts) (hb : Below w.heap.size w w') : KR w' A n ts := ⟨h.len, (h.rd.below hb (Nat.le_refl _)).more hb.size⟩
theorem KR.nil (w : World) : KR w none 0 [] := ⟨rfl, .inl rfl⟩
theorem KR.at_ {w : World} {A : Option Addr} {n : Nat} {ts : List Kv} (h : KR w A n ts) {j : Nat} (hj : j < ts.length) : ∃ ad, A = some ad ∧ ad.block < w.heap.size ∧ ∀ w', Below w.heap.size w w' → w'.cell? (ad.add (j * 2)) = some (.string ts[j].k) ∧ w'.cell? ⟨(ad.add (j * 2)).block, (ad.add (j * 2)).off + 1, none⟩ = some (.string ts[j].v) := by
  obtain ⟨ad, hA, hb, hc⟩ := h.rd.addr (by rw [kvC_length]; omega)
  refine ⟨ad, hA, hb, fun w' hw => ⟨?_, ?_⟩⟩
  · rw [hw.cell (by rw [add_block]; exact hb)]; exact hc _ _ (kvC_at ts j hj).1
  · have e1 : (⟨(ad.add (j * 2)).block, (ad.add (j * 2)).off + 1, none⟩ : Addr) = ad.add (j * 2 + 1) := by rw [← add_add]; rfl
    rw [e1, hw.cell (by rw [add_block]; exact hb)]; exact hc _ _ (kvC_at ts j hj).2

/-- a row of pairs of the call's own -/
structure OK (e : TypeId) (w : World) (base : Nat) (A : Option Addr) (n c : Nat) (ts : List Kv) : Prop where
  own : w.ownsRow base e 2 (.slice A n c) n (kvC ts)
  cap : n ≤ c
section
variable {e : TypeId} {w : World} {base : Nat} {A : Option Addr} {n c : Nat} {ts : List Kv}
theorem OK.len (h : OK e w base A n c ts) : ts.length = n := by
  have := h.own.1
  rw [kvC_length] at this
  omega
theorem OK.kr (h : OK e w base A n c ts) : KR w A n ts := ⟨h.len, rd_own2 h.own⟩
theorem OK.next {w' : World} (h : OK e w base A n c ts) (hb : Below w.heap.size w w') : OK e w' base A n c ts := ⟨own_below_s h.own hb (Nat.le_refl _), h.cap⟩
theorem OK.nil (e : TypeId) (w : World) (base : Nat) : OK e w base none 0 0 [] := ⟨World.ownsRow_nil _ _ _ _, Nat.le_refl _⟩
theorem OK.base_ {base' : Nat} (h : OK e w base A n c ts) (hb : base' ≤ base) : OK e w base' A n c ts := ⟨own_base_s h.own hb, h.cap⟩
theorem OK.push {v : Value} {k r : ByteArray} (h : w.ownsRow base e 2 v (n + 1) (kvC ts ++ [.string k, .string r])) : ∃ A c, v = .slice A (n + 1) c ∧ OK e w base A (n + 1) c (ts ++ [⟨k, r⟩]) := by
  obtain ⟨A, c, rfl, h1, _⟩ := own_form_s h
  exact ⟨A, c, rfl, by rw [kvC_append]; exact h, h1⟩
end

/- order -/
def Srt (l : List Kv) : Prop := l.Pairwise fun a b => ltB a.k b.k = true
/-- keys rise, each above the one ahead -/
def tabF : List Kv → Bool
  | [] => true
  | a :: r => (match r with | [] => true | b :: _ => ltB a.k b.k) && tabF r
theorem tab_srt : ∀ l : List Kv, tabF l = true ↔ Srt l
  | [] => by simp [tabF, Srt]
  | [a] => by simp [tabF, Srt]
  | a :: b :: r => by
    have ih := tab_srt (b :: r)
    unfold Srt at ih ⊢
    rw [List.pairwise_cons, ← ih]
    constructor
    · intro h
      have h' : ltB a.k b.k = true ∧ tabF (b :: r) = true := by simpa [tabF] using h
      refine ⟨fun x hx => ?_, h'.2⟩
      rcases List.mem_cons.1 hx with rfl | hx
      · exact h'.1
      · exact ltB_trans h'.1 ((List.pairwise_cons.1 (ih.1 h'.2)).1 x hx)
    · intro h
      have h1 := h.1 b (by simp)
      have h2 := h.2
      show (ltB a.k b.k && tabF (b :: r)) = true
      rw [h1, h2]
      rfl
theorem Srt.at_ {l : List Kv} (h : Srt l) {i j : Nat} (hj : j < l.length) (hij : i < j) : ltB (l[i]'(by omega)).k l[j].k = true := List.pairwise_iff_getElem.1 h i j (by omega) hj hij
theorem tab_next {l : List Kv} {i : Nat} (hi : i + 1 < l.length) (h : tabF (l.take (i + 1)) = true) : tabF (l.take (i + 2)) = ltB l[i].k l[i + 1].k := by
  have hs := (tab_srt _).1 h
  cases hb : ltB l[i].k l[i + 1].k with
  | true =>
    refine (tab_srt _).2 ?_
    unfold Srt
    rw [List.pairwise_iff_getElem]
    intro a b ha hb' hab
    rw [List.getElem_take, List.getElem_take]
    have hlen : (l.take (i + 2)).length = i + 2 := by rw [List.length_take]; omega
    by_cases hbi : b = i + 1
    · subst hbi
      by_cases hai : a = i
      · subst hai; exact hb
      · have := hs.at_ (i := a) (j := i) (by rw [List.length_take]; omega) (by omega)
        rw [List.getElem_take, List.getElem_take] at this
        exact ltB_trans this hb
    · have := hs.at_ (i := a) (j := b) (by rw [List.length_take]; omega) hab
      rw [List.getElem_take, List.getElem_take] at this
      exact this
  | false =>
    cases ht : tabF (l.take (i + 2)) with
    | false => rfl
    | true =>
      have := ((tab_srt _).1 ht).at_ (i := i) (j := i + 1) (by rw [List.length_take]; omega) (by omega)
      rw [List.getElem_take, List.getElem_take, hb] at this
      cases this
theorem tab_short {l : List Kv} {i : Nat} (h : tabF (l.take i) = false) : tabF l = false := by
  cases ht : tabF l with
  | false => rfl
  | true =>
    have hs := (tab_srt _).1 ht
    have : Srt (l.take i) := List.Pairwise.sublist (List.take_sublist _ _) hs
    rw [(tab_srt _).2 this] at h
    cases h

/- places -/
/-- how many keys at the beginning are below one -/
def posF (k : ByteArray) (l : List Kv) : Nat := (l.takeWhile fun p => ltB p.k k).length
theorem posF_le (k : ByteArray) (l : List Kv) : posF k l ≤ l.length := (List.takeWhile_sublist _).length_le
theorem posF_of {k : ByteArray} : ∀ {l : List Kv} {i : Nat}, i ≤ l.length → (∀ j (h : j < l.length), j < i → ltB l[j].k k = true) → (∀ (h : i < l.length), ltB l[i].k k = false) → posF k l = i
  | [], i, hi, _, _ => by
    obtain rfl : i = 0 := by simpa using hi
    rfl
  | a :: r, 0, _, _, h => by
    have := h (by simp)
    simp at this
    simp [posF, this]
  | a :: r, i + 1, hi, h1, h2 => by
    have h0 := h1 0 (by simp) (by omega)
    simp at h0
    have := posF_of (k := k) (l := r) (i := i) (by simpa using hi) (fun j hj hji => by have := h1 (j + 1) (by simpa using hj) (by omega); exact this) (fun h => by have := h2 (by simpa using h); exact this)
    unfold posF at this ⊢
    rw [List.takeWhile_cons, h0]
    simpa using this
theorem posF_lt {k : ByteArray} : ∀ {l : List Kv} {j : Nat} (h : j < l.length), j < posF k l → ltB l[j].k k = true
  | [], _, h, _ => by simp at h
  | a :: r, j, h, hj => by
    unfold posF at hj
    rw [List.takeWhile_cons] at hj
    split at hj
    · rename_i ha
      cases j with
      | zero => exact ha
      | succ j => exact posF_lt (l := r) (by simpa using h) (by simpa [posF] using hj)
    · simp at hj
theorem posF_at {k : ByteArray} : ∀ {l : List Kv} (h : posF k l < l.length), ltB l[posF k l].k k = false
  | [], h => by simp at h
  | a :: r, h => by
    cases ha : ltB a.k k with
    | true =>
      have e : posF k (a :: r) = posF k r + 1 := by
        unfold posF
        rw [List.takeWhile_cons, ha]
        rfl
      simp only [e, List.length_cons, List.getElem_cons_succ] at h ⊢
      exact posF_at (l := r) (by omega)
    | false =>
      have e : posF k (a :: r) = 0 := by
        unfold posF
        rw [List.takeWhile_cons, ha]
        rfl
      simp only [e, List.getElem_cons_zero]
      exact ha
/-- is a key there? -/
def thereF (k : ByteArray) (l : List Kv) : Bool := decide ((l[posF k l]?).map Kv.k = some k)
theorem there_lt {k : ByteArray} {l : List Kv} (h : thereF k l = true) : ∃ hp : posF k l < l.length, l[posF k l].k = k := by
  unfold thereF at h
  simp only [decide_eq_true_eq, Option.map_eq_some_iff] at h
  obtain ⟨a, ha, e⟩ := h
  obtain ⟨hp, e2⟩ := List.getElem?_eq_some_iff.1 ha
  exact ⟨hp, by rw [e2]; exact e⟩
theorem there_at {k : ByteArray} {l : List Kv} (h : posF k l < l.length) : thereF k l = decide (l[posF k l].k = k) := by
  unfold thereF
  rw [List.getElem?_eq_getElem h]
  simp
theorem there_end {k : ByteArray} {l : List Kv} (h : ¬ posF k l < l.length) : thereF k l = false := by
  unfold thereF
  rw [List.getElem?_eq_none (by omega)]
  simp
/-- behind the place the keys are above -/
theorem above_pos {k : ByteArray} {l : List Kv} (hs : Srt l) {j : Nat} (hj : j < l.length) (h : posF k l < j) : ltB k l[j].k = true := by
  have hp : posF k l < l.length := by omega
  have h1 := hs.at_ hj h
  have h2 := posF_at hp
  cases h3 : ltB k l[posF k l].k with
  | true => exact ltB_trans h3 h1
  | false => rw [← ltB_total h2 h3]; exact h1
theorem above_at {k : ByteArray} {l : List Kv} (hp : posF k l < l.length) (ht : thereF k l = false) : ltB k l[posF k l].k = true := by
  rw [there_at hp] at ht
  have h2 := posF_at hp
  cases h3 : ltB k l[posF k l].k with
  | true => rfl
  | false => exact absurd (ltB_total h2 h3) (by simpa using ht)
/-- a key that is in a table stands at its place -/
theorem mem_there {k v : ByteArray} {l : List Kv} (hs : Srt l) (h : (⟨k, v⟩ : Kv) ∈ l) : ∃ hp : posF k l < l.length, l[posF k l] = ⟨k, v⟩ := by
  obtain ⟨j, hj, e⟩ := List.getElem_of_mem h
  have hpos : posF k l = j := posF_of (by omega) (fun i hi hij => by have := hs.at_ hj hij; rw [e] at this; exact this) (fun _ => by rw [e]; exact ltB_irrefl k)
  subst hpos
  exact ⟨hj, e⟩
theorem there_mem {k : ByteArray} {l : List Kv} (hs : Srt l) (p : Kv) (hp : p ∈ l) (e : p.k = k) : thereF k l = true := by
  obtain ⟨k', v⟩ := p
  obtain rfl : k' = k := e
  obtain ⟨h1, h2⟩ := mem_there hs hp
  rw [there_at h1, h2]
  simp

/- what is read -/
def firstsF (l : List Kv) : List ByteArray := (l.take 10).flatMap fun p => [p.k, p.v]
def readsF (d : Int) (k : ByteArray) (l : List Kv) : List ByteArray :=
  if d = 1 then (if thereF k l then [(l.getD (posF k l) default).v] else []) else if d = 2 then firstsF l else []
/- what is written -/
def restF (k : ByteArray) (l : List Kv) : List Kv := if thereF k l then l.drop (posF k l + 1) else l.drop (posF k l)
def writesF (d : Int) (k v : ByteArray) (l : List Kv) : List Kv × Int :=
  if d = 3 ∨ (d = 4 ∧ thereF k l = true) then (l.take (posF k l) ++ ⟨k, v⟩ :: restF k l, 1)
  else if d = 5 ∧ thereF k l = true then (l.take (posF k l) ++ restF k l, 1)
  else (l, 0)

theorem rest_above {k : ByteArray} {l : List Kv} (hs : Srt l) : ∀ p ∈ restF k l, ltB k p.k = true := by
  intro p hp
  unfold restF at hp
  split at hp
  · rename_i ht
    obtain ⟨j, hj, e⟩ := List.getElem_of_mem hp
    rw [List.length_drop] at hj
    rw [List.getElem_drop] at e
    have := above_pos (k := k) hs (j := posF k l + 1 + j) (by omega) (by omega)
    rw [e] at this
    exact this
  · rename_i ht
    obtain ⟨j, hj, e⟩ := List.getElem_of_mem hp
    rw [List.length_drop] at hj
    rw [List.getElem_drop] at e
    by_cases h0 : j = 0
    · subst h0
      have := above_at (k := k) (l := l) (by omega) (by simpa using ht)
      simp only [Nat.add_zero] at e
      rw [e] at this
      exact this
    · have := above_pos (k := k) hs (j := posF k l + j) (by omega) (by omega)
      rw [e] at this
      exact this
theorem front_below {k : ByteArray} {l : List Kv} : ∀ p ∈ l.take (posF k l), ltB p.k k = true := by
  intro p hp
  obtain ⟨j, hj, e⟩ := List.getElem_of_mem hp
  rw [List.length_take] at hj
  rw [List.getElem_take] at e
  have := posF_lt (k := k) (l := l) (j := j) (by omega) (by omega)
  rw [e] at this
  exact this
theorem rest_sub (k : ByteArray) (l : List Kv) : (restF k l).Sublist l := by
  unfold restF
  split <;> exact List.drop_sublist _ _
theorem parts_sub (k : ByteArray) (l : List Kv) : (l.take (posF k l) ++ restF k l).Sublist l := by
  have e : l = l.take (posF k l) ++ l.drop (posF k l) := (List.take_append_drop _ _).symm
  conv => rhs; rw [e]
  refine List.Sublist.append (List.Sublist.refl _) ?_
  unfold restF
  split
  · rw [← List.drop_drop]
    exact List.drop_sublist _ _
  · exact List.Sublist.refl _
theorem writes_srt (d : Int) (k v : ByteArray) {l : List Kv} (hs : Srt l) : Srt (writesF d k v l).1 := by
  unfold writesF
  split
  · show Srt (l.take (posF k l) ++ ⟨k, v⟩ :: restF k l)
    unfold Srt
    rw [List.pairwise_append, List.pairwise_cons]
    refine ⟨hs.sublist (List.take_sublist _ _), ⟨rest_above hs, hs.sublist (rest_sub k l)⟩, fun a ha b hb => ?_⟩
    rcases List.mem_cons.1 hb with rfl | hb
    · exact front_below a ha
    · exact ltB_trans (front_below a ha) (rest_above hs b hb)
  split
  · exact hs.sublist (parts_sub k l)
  · exact hs
/-- what stands there that isn't the key's -/
theorem mem_parts {k : ByteArray} {l : List Kv} (p : Kv) (hk : p.k ≠ k) : p ∈ l.take (posF k l) ++ restF k l ↔ p ∈ l := by
  constructor
  · exact fun h => (parts_sub k l).mem h
  · intro h
    have e : l = l.take (posF k l) ++ l.drop (posF k l) := (List.take_append_drop _ _).symm
    rw [e] at h
    rcases List.mem_append.1 h with h | h
    · exact List.mem_append_left _ h
    · refine List.mem_append_right _ ?_
      unfold restF
      split
      · rename_i ht
        obtain ⟨hp, e2⟩ := there_lt ht
        rw [List.drop_eq_getElem_cons hp] at h
        rcases List.mem_cons.1 h with rfl | h
        · exact absurd e2 hk
        · exact h
      · exact h
/-- what stands in the table behind a plan -/
theorem mem_writes (d : Int) (k v : ByteArray) {l : List Kv} (p : Kv) (hk : p.k ≠ k) : p ∈ (writesF d k v l).1 ↔ p ∈ l := by
  unfold writesF
  split
  · show p ∈ l.take (posF k l) ++ ⟨k, v⟩ :: restF k l ↔ _
    refine Iff.trans ?_ (mem_parts p hk)
    rw [List.mem_append, List.mem_append, List.mem_cons]
    constructor
    · rintro (h | rfl | h)
      · exact .inl h
      · exact absurd rfl hk
      · exact .inr h
    · rintro (h | h)
      · exact .inl h
      · exact .inr (.inr h)
  split
  · exact mem_parts p hk
  · exact Iff.rfl
theorem writes_put {d : Int} {k v : ByteArray} {l : List Kv} (h : d = 3 ∨ (d = 4 ∧ thereF k l = true)) : (⟨k, v⟩ : Kv) ∈ (writesF d k v l).1 := by
  unfold writesF
  rw [if_pos h]
  simp
theorem writes_gone {k v : ByteArray} {l : List Kv} (hs : Srt l) (p : Kv) (hp : p ∈ (writesF 5 k v l).1) : p.k ≠ k := by
  unfold writesF at hp
  rw [if_neg (by omega)] at hp
  split at hp
  · rcases List.mem_append.1 hp with h | h
    · exact ltB_ne (front_below p h)
    · exact (ltB_ne (rest_above hs p h)).symm
  · rename_i h
    intro e
    exact h ⟨rfl, there_mem hs p hp e⟩
theorem rest_len (k : ByteArray) (l : List Kv) : (l.take (posF k l)).length + (restF k l).length + (if thereF k l then 1 else 0) = l.length := by
  have := posF_le k l
  unfold restF
  split
  · rename_i h
    obtain ⟨hp, _⟩ := there_lt h
    rw [List.length_take, List.length_drop]
    omega
  · rw [List.length_take, List.length_drop]
    omega
theorem writes_len (d : Int) (k v : ByteArray) (l : List Kv) :
    ((writesF d k v l).2 = 0 ∧ (writesF d k v l).1.length = l.length) ∨ ((writesF d k v l).2 = 1 ∧ (writesF d k v l).1.length ≤ l.length + 1 ∧ l.length ≤ (writesF d k v l).1.length + 1) := by
  have := rest_len k l
  unfold writesF
  split
  · refine .inr ⟨rfl, ?_, ?_⟩
    all_goals
      simp only [List.length_append, List.length_cons]
      split at this <;> omega
  split
  · refine .inr ⟨rfl, ?_, ?_⟩
    all_goals
      simp only [List.length_append]
      split at this <;> omega
  · exact .inl ⟨rfl, rfl⟩
/-- what is read of a key -/
theorem reads_mem {k v : ByteArray} {l : List Kv} (hs : Srt l) (h : (⟨k, v⟩ : Kv) ∈ l) : readsF 1 k l = [v] := by
  obtain ⟨hp, e⟩ := mem_there hs h
  unfold readsF
  rw [if_pos rfl, there_mem hs _ h rfl, if_pos rfl, List.getD_eq_getElem?_getD, List.getElem?_eq_getElem hp, e]
  rfl
theorem reads_none {k : ByteArray} {l : List Kv} (h : ∀ p ∈ l, p.k ≠ k) : readsF 1 k l = [] := by
  unfold readsF
  rw [if_pos rfl]
  cases ht : thereF k l with
  | false => rfl
  | true =>
    obtain ⟨hp, e⟩ := there_lt ht
    exact absurd e (h _ (List.getElem_mem hp))
theorem keys_other (d : Int) {k k' v : ByteArray} (hk : k' ≠ k) {l : List Kv} (h : ∀ p ∈ l, p.k ≠ k') : ∀ p ∈ (writesF d k v l).1, p.k ≠ k' := by
  intro p hp e
  exact h p ((mem_writes d k v p (by rw [e]; exact hk)).1 hp) e
end Go.Proofs.YtkkmjoadhjnldaaDoor
