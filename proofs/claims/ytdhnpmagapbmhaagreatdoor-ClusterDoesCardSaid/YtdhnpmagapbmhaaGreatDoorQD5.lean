/-
  Contracts and plain functions that the law stands on, part 5 of 24.
-/
import Derived.Test.YtdhnpmagapbmhaaGreatDoorQD4
import Derived.Laws.Cover1
import Derived.Lib.AppendZerosOnto
import Derived.Lib.SliceRun
import Derived.BigQuiet
namespace Go.Proofs.YtdhnpmagapbmhaaGreatDoor
/- Tables: rows of pairs as they lie in memory, their order, what is read of them and written to them: plain functions (no function of the program is named here). -/
section
open Go.RowKit
set_option maxRecDepth 100000
theorem bytes_ext {s t : ByteArray} (h : s.toList = t.toList) : s = t := by
 rw [ByteArray.toList_eq, ByteArray.toList_eq] at h; cases s; cases t; simp only [ByteArray.mk.injEq]; exact Array.toList_inj.1 h
theorem rd_own2 {w : World} {A : Option Addr} {xs : List Value} {base n c : Nat} {e : TypeId} (h : w.ownsRow base e 2 (.slice A n c) n xs) : Rd w w.heap.size A xs := by
 rcases h.2 with ⟨_, hn⟩ | ⟨g, cap, cur, hv, _, hg, _⟩
 · exact .inl (List.eq_nil_of_length_eq_zero (by have := h.1; omega))
 · have hA : A = some ⟨g, 0, none⟩ := by injection hv
   subst hA; exact .inr ⟨_, rfl, (Array.getElem?_eq_some_iff.1 hg).1, h.cells (g := g) rfl⟩
def ltB (a b : ByteArray) : Bool := Op.bytesLess a.toList b.toList
theorem less_irrefl : ∀ a : List UInt8, Op.bytesLess a a = false
 | [] => rfl
 | x :: r => by
   rw [Op.bytesLess, less_irrefl r]; simp
theorem less_total : ∀ a b : List UInt8, Op.bytesLess a b = false → Op.bytesLess b a = false → a = b
 | [], [], _, _ => rfl
 | [], _ :: _, h, _ => by simp [Op.bytesLess] at h
 | _ :: _, [], _, h => by simp [Op.bytesLess] at h
 | x :: a, y :: b, h, k => by
   simp only [Op.bytesLess, Bool.or_eq_false_iff, decide_eq_false_iff_not, Bool.and_eq_false_iff, beq_eq_false_iff_ne] at h k
   have e : x = y := by
    have h1 := h.1; have h2 := k.1; rw [UInt8.lt_iff_toNat_lt] at h1 h2; exact UInt8.toNat_inj.1 (by omega)
   subst e; rcases h.2 with h' | h'
   · exact absurd rfl h'
   rcases k.2 with k' | k'
   · exact absurd rfl k'
   rw [less_total a b h' k']
theorem less_trans : ∀ a b c : List UInt8, Op.bytesLess a b = true → Op.bytesLess b c = true → Op.bytesLess a c = true
 | _, [], _, h, _ => by simp [Op.bytesLess] at h
 | _, _ :: _, [], _, h => by simp [Op.bytesLess] at h
 | [], _ :: _, _ :: _, _, _ => rfl
 | x :: a, y :: b, z :: c, h, k => by
   simp only [Op.bytesLess, Bool.or_eq_true, decide_eq_true_eq, Bool.and_eq_true, beq_iff_eq] at h k ⊢; rcases h with h | ⟨rfl, h⟩
   · rcases k with k | ⟨rfl, _⟩
     · exact .inl (by rw [UInt8.lt_iff_toNat_lt] at h k ⊢; omega)
     · exact .inl h
   · rcases k with k | ⟨rfl, k⟩
     · exact .inl k
     · exact .inr ⟨rfl, less_trans a b c h k⟩
theorem ltB_irrefl (a : ByteArray) : ltB a a = false := less_irrefl _
theorem ltB_total {a b : ByteArray} (h : ltB a b = false) (k : ltB b a = false) : a = b := bytes_ext (less_total _ _ h k)
theorem ltB_trans {a b c : ByteArray} (h : ltB a b = true) (k : ltB b c = true) : ltB a c = true := less_trans _ _ _ h k
theorem ltB_asymm {a b : ByteArray} (h : ltB a b = true) : ltB b a = false := by
 cases k : ltB b a with
 | false => rfl
 | true => rw [← ltB_irrefl a, ← ltB_trans h k]
theorem ltB_ne {a b : ByteArray} (h : ltB a b = true) : a ≠ b := fun e => by rw [e, ltB_irrefl] at h; cases h
structure Kv where
 k : ByteArray
 v : ByteArray
deriving DecidableEq
instance : Inhabited Kv := ⟨⟨⟨#[]⟩, ⟨#[]⟩⟩⟩
def Kv.cells (t : Kv) : List Value := [.string t.k, .string t.v]
def kvC (ts : List Kv) : List Value := ts.flatMap Kv.cells
theorem kvC_length : ∀ ts : List Kv, (kvC ts).length = ts.length * 2
 | [] => rfl
 | r :: rs => by
   have := kvC_length rs; simp only [kvC, List.flatMap_cons, List.length_append, List.length_cons, Kv.cells, List.length_nil] at this ⊢; omega
theorem kvC_append (a b : List Kv) : kvC (a ++ b) = kvC a ++ kvC b := by simp [kvC]
theorem kvC_at : ∀ (rs : List Kv) (j : Nat) (h : j < rs.length), (kvC rs)[j * 2]? = some (.string rs[j].k) ∧ (kvC rs)[j * 2 + 1]? = some (.string rs[j].v)
 | [], _, h => by simp at h
 | r :: rs, 0, _ => by simp [kvC, Kv.cells]
 | r :: rs, j + 1, h => by
   have := kvC_at rs j (by simpa using h); have e1 : (j + 1) * 2 = j * 2 + 2 := by omega
   simp only [kvC, List.flatMap_cons] at this ⊢; rw [e1]; simpa [Kv.cells] using this
theorem kvC_take : ∀ (rs : List Kv) (k : Nat), kvC (rs.take k) = (kvC rs).take (k * 2)
 | _, 0 => by simp [kvC]
 | [], k + 1 => by simp [kvC]
 | r :: rs, k + 1 => by
   have := kvC_take rs k; have e1 : (k + 1) * 2 = k * 2 + 2 := by omega
   rw [List.take_succ_cons]; simp only [kvC, List.flatMap_cons] at this ⊢; rw [this, e1]; simp [Kv.cells]
theorem kvC_drop : ∀ (rs : List Kv) (k : Nat), kvC (rs.drop k) = (kvC rs).drop (k * 2)
 | _, 0 => by simp [kvC]
 | [], k + 1 => by simp [kvC]
 | r :: rs, k + 1 => by
   have := kvC_drop rs k; have e1 : (k + 1) * 2 = k * 2 + 2 := by omega
   rw [List.drop_succ_cons]; simp only [kvC, List.flatMap_cons] at this ⊢; rw [this, e1]; simp [Kv.cells]
theorem kvC_one (rs : List Kv) : ∀ u ∈ kvC rs, u.oneCell' = true := by
 intro u hu; simp only [kvC, List.mem_flatMap] at hu; obtain ⟨r, _, h⟩ := hu; simp only [Kv.cells, List.mem_cons, List.not_mem_nil, or_false] at h; rcases h with rfl | rfl <;> rfl
structure KR (w : World) (A : Option Addr) (n : Nat) (ts : List Kv) : Prop where
 len : ts.length = n
 rd : Rd w w.heap.size A (kvC ts)
theorem KR.next {w w' : World} {A : Option Addr} {n : Nat} {ts : List Kv} (h : KR w A n ts) (hb : Below w.heap.size w w') : KR w' A n ts := ⟨h.len, (h.rd.below hb (Nat.le_refl _)).more hb.size⟩
theorem KR.at_ {w : World} {A : Option Addr} {n : Nat} {ts : List Kv} (h : KR w A n ts) {j : Nat} (hj : j < ts.length) : ∃ ad, A = some ad ∧ ad.block < w.heap.size ∧ ∀ w', Below w.heap.size w w' → w'.cell? (ad.add (j * 2)) = some (.string ts[j].k) ∧ w'.cell? ⟨(ad.add (j * 2)).block, (ad.add (j * 2)).off + 1, none⟩ = some (.string ts[j].v) := by
 obtain ⟨ad, hA, hb, hc⟩ := h.rd.addr (by rw [kvC_length]; omega); refine ⟨ad, hA, hb, fun w' hw => ⟨?_, ?_⟩⟩
 · rw [hw.cell (by rw [add_block]; exact hb)]; exact hc _ _ (kvC_at ts j hj).1
 · have e1 : (⟨(ad.add (j * 2)).block, (ad.add (j * 2)).off + 1, none⟩ : Addr) = ad.add (j * 2 + 1) := by rw [← add_add]; rfl
   rw [e1, hw.cell (by rw [add_block]; exact hb)]; exact hc _ _ (kvC_at ts j hj).2
structure OK (e : TypeId) (w : World) (base : Nat) (A : Option Addr) (n c : Nat) (ts : List Kv) : Prop where
 own : w.ownsRow base e 2 (.slice A n c) n (kvC ts)
 cap : n ≤ c
section
variable {e : TypeId} {w : World} {base : Nat} {A : Option Addr} {n c : Nat} {ts : List Kv}
theorem OK.len (h : OK e w base A n c ts) : ts.length = n := by
 have := h.own.1; rw [kvC_length] at this; omega
theorem OK.kr (h : OK e w base A n c ts) : KR w A n ts := ⟨h.len, rd_own2 h.own⟩
theorem OK.next {w' : World} (h : OK e w base A n c ts) (hb : Below w.heap.size w w') : OK e w' base A n c ts := ⟨own_below_s h.own hb (Nat.le_refl _), h.cap⟩
theorem OK.nil (e : TypeId) (w : World) (base : Nat) : OK e w base none 0 0 [] := ⟨World.ownsRow_nil _ _ _ _, Nat.le_refl _⟩
theorem OK.base_ {base' : Nat} (h : OK e w base A n c ts) (hb : base' ≤ base) : OK e w base' A n c ts := ⟨own_base_s h.own hb, h.cap⟩
theorem OK.push {v : Value} {k r : ByteArray} (h : w.ownsRow base e 2 v (n + 1) (kvC ts ++ [.string k, .string r])) : ∃ A c, v = .slice A (n + 1) c ∧ OK e w base A (n + 1) c (ts ++ [⟨k, r⟩]) := by
 obtain ⟨A, c, rfl, h1, _⟩ := own_form_s h; exact ⟨A, c, rfl, by rw [kvC_append]; exact h, h1⟩
end
def Srt (l : List Kv) : Prop := l.Pairwise fun a b => ltB a.k b.k = true
theorem Srt.at_ {l : List Kv} (h : Srt l) {i j : Nat} (hj : j < l.length) (hij : i < j) : ltB (l[i]'(by omega)).k l[j].k = true := List.pairwise_iff_getElem.1 h i j (by omega) hj hij
def posF (k : ByteArray) (l : List Kv) : Nat := (l.takeWhile fun p => ltB p.k k).length
theorem posF_le (k : ByteArray) (l : List Kv) : posF k l ≤ l.length := (List.takeWhile_sublist _).length_le
theorem posF_of {k : ByteArray} : ∀ {l : List Kv} {i : Nat}, i ≤ l.length → (∀ j (h : j < l.length), j < i → ltB l[j].k k = true) → (∀ (h : i < l.length), ltB l[i].k k = false) → posF k l = i
 | [], i, hi, _, _ => by
   obtain rfl : i = 0 := by simpa using hi
   rfl
 | a :: r, 0, _, _, h => by
   have := h (by simp); simp at this
   simp [posF, this]
 | a :: r, i + 1, hi, h1, h2 => by
   have h0 := h1 0 (by simp) (by omega); simp at h0
   have := posF_of (k := k) (l := r) (i := i) (by simpa using hi) (fun j hj hji => by have := h1 (j + 1) (by simpa using hj) (by omega); exact this) (fun h => by have := h2 (by simpa using h); exact this); unfold posF at this ⊢; rw [List.takeWhile_cons, h0]; simpa using this
theorem posF_lt {k : ByteArray} : ∀ {l : List Kv} {j : Nat} (h : j < l.length), j < posF k l → ltB l[j].k k = true
 | [], _, h, _ => by simp at h
 | a :: r, j, h, hj => by
   unfold posF at hj; rw [List.takeWhile_cons] at hj; split at hj
   · rename_i ha
     cases j with
     | zero => exact ha
     | succ j => exact posF_lt (l := r) (by simpa using h) (by simpa [posF] using hj)
   · simp at hj
theorem posF_at {k : ByteArray} : ∀ {l : List Kv} (h : posF k l < l.length), ltB l[posF k l].k k = false
 | [], h => by simp at h
 | a :: r, h => by
   cases ha : ltB a.k k with
   | true =>
     have e : posF k (a :: r) = posF k r + 1 := by
      unfold posF; rw [List.takeWhile_cons, ha]; rfl
     simp only [e, List.length_cons, List.getElem_cons_succ] at h ⊢; exact posF_at (l := r) (by omega)
   | false =>
     have e : posF k (a :: r) = 0 := by
      unfold posF; rw [List.takeWhile_cons, ha]; rfl
     simp only [e, List.getElem_cons_zero]; exact ha
def thereF (k : ByteArray) (l : List Kv) : Bool := decide ((l[posF k l]?).map Kv.k = some k)
theorem there_lt {k : ByteArray} {l : List Kv} (h : thereF k l = true) : ∃ hp : posF k l < l.length, l[posF k l].k = k := by
 unfold thereF at h; simp only [decide_eq_true_eq, Option.map_eq_some_iff] at h; obtain ⟨a, ha, e⟩ := h; obtain ⟨hp, e2⟩ := List.getElem?_eq_some_iff.1 ha; exact ⟨hp, by rw [e2]; exact e⟩
theorem there_at {k : ByteArray} {l : List Kv} (h : posF k l < l.length) : thereF k l = decide (l[posF k l].k = k) := by
 unfold thereF; rw [List.getElem?_eq_getElem h]; simp
theorem there_end {k : ByteArray} {l : List Kv} (h : ¬ posF k l < l.length) : thereF k l = false := by
 unfold thereF; rw [List.getElem?_eq_none (by omega)]; simp
theorem above_pos {k : ByteArray} {l : List Kv} (hs : Srt l) {j : Nat} (hj : j < l.length) (h : posF k l < j) : ltB k l[j].k = true := by
 have hp : posF k l < l.length := by omega
 have h1 := hs.at_ hj h; have h2 := posF_at hp
 cases h3 : ltB k l[posF k l].k with
 | true => exact ltB_trans h3 h1
 | false => rw [← ltB_total h2 h3]; exact h1
theorem above_at {k : ByteArray} {l : List Kv} (hp : posF k l < l.length) (ht : thereF k l = false) : ltB k l[posF k l].k = true := by
 rw [there_at hp] at ht; have h2 := posF_at hp
 cases h3 : ltB k l[posF k l].k with
 | true => rfl
 | false => exact absurd (ltB_total h2 h3) (by simpa using ht)
def firstsF (l : List Kv) : List ByteArray := (l.take 10).flatMap fun p => [p.k, p.v]
def readsF (d : Int) (k : ByteArray) (l : List Kv) : List ByteArray :=
 if d = 1 then (if thereF k l then [(l.getD (posF k l) default).v] else []) else if d = 2 then firstsF l else []
def restF (k : ByteArray) (l : List Kv) : List Kv := if thereF k l then l.drop (posF k l + 1) else l.drop (posF k l)
def writesF (d : Int) (k v : ByteArray) (l : List Kv) : List Kv × Int :=
 if d = 3 ∨ (d = 4 ∧ thereF k l = true) then (l.take (posF k l) ++ ⟨k, v⟩ :: restF k l, 1)
 else if d = 5 ∧ thereF k l = true then (l.take (posF k l) ++ restF k l, 1)
 else (l, 0)
theorem rest_above {k : ByteArray} {l : List Kv} (hs : Srt l) : ∀ p ∈ restF k l, ltB k p.k = true := by
 intro p hp; unfold restF at hp; split at hp
 · rename_i ht
   obtain ⟨j, hj, e⟩ := List.getElem_of_mem hp; rw [List.length_drop] at hj; rw [List.getElem_drop] at e; have := above_pos (k := k) hs (j := posF k l + 1 + j) (by omega) (by omega); rw [e] at this; exact this
 · rename_i ht
   obtain ⟨j, hj, e⟩ := List.getElem_of_mem hp; rw [List.length_drop] at hj; rw [List.getElem_drop] at e; by_cases h0 : j = 0
   · subst h0; have := above_at (k := k) (l := l) (by omega) (by simpa using ht); simp only [Nat.add_zero] at e; rw [e] at this; exact this
   · have := above_pos (k := k) hs (j := posF k l + j) (by omega) (by omega); rw [e] at this; exact this
theorem front_below {k : ByteArray} {l : List Kv} : ∀ p ∈ l.take (posF k l), ltB p.k k = true := by
 intro p hp; obtain ⟨j, hj, e⟩ := List.getElem_of_mem hp; rw [List.length_take] at hj; rw [List.getElem_take] at e; have := posF_lt (k := k) (l := l) (j := j) (by omega) (by omega); rw [e] at this; exact this
theorem rest_sub (k : ByteArray) (l : List Kv) : (restF k l).Sublist l := by
 unfold restF; split <;> exact List.drop_sublist _ _
theorem parts_sub (k : ByteArray) (l : List Kv) : (l.take (posF k l) ++ restF k l).Sublist l := by
 have e : l = l.take (posF k l) ++ l.drop (posF k l) := (List.take_append_drop _ _).symm
 conv => rhs; rw [e]
 refine List.Sublist.append (List.Sublist.refl _) ?_; unfold restF; split
 · rw [← List.drop_drop]; exact List.drop_sublist _ _
 · exact List.Sublist.refl _
theorem writes_srt (d : Int) (k v : ByteArray) {l : List Kv} (hs : Srt l) : Srt (writesF d k v l).1 := by
 unfold writesF; split
 · show Srt (l.take (posF k l) ++ ⟨k, v⟩ :: restF k l); unfold Srt; rw [List.pairwise_append, List.pairwise_cons]; refine ⟨hs.sublist (List.take_sublist _ _), ⟨rest_above hs, hs.sublist (rest_sub k l)⟩, fun a ha b hb => ?_⟩; rcases List.mem_cons.1 hb with rfl | hb
   · exact front_below a ha
   · exact ltB_trans (front_below a ha) (rest_above hs b hb)
 split
 · exact hs.sublist (parts_sub k l)
 · exact hs
end

/- A node, plain: an epoch, does it lead it, a log, transactions by connections; what each call answers and leaves (no function of the program is named here). -/
section
open Go.RowKit
set_option maxRecDepth 100000
def ba (l : List UInt8) : ByteArray := ⟨l.toArray⟩
theorem ba_text (s : ByteArray) : ba s.data.toList = s := by cases s; rfl
structure Lg where
 e : Int
 t : ByteArray
deriving DecidableEq
instance : Inhabited Lg := ⟨⟨0, ⟨#[]⟩⟩⟩
structure Op15 where
 c : Int
 ts : List ByteArray
deriving DecidableEq
instance : Inhabited Op15 := ⟨⟨0, []⟩⟩
structure Nd where
 ep : Int
 ld : Bool
 lg : List Lg
 op : List Op15
structure Rp where
 e : Int
 ep : Int
 pl : Int
 ts : List ByteArray
def newNd : Nd := ⟨1, false, [], []⟩
def opOf (c : Int) : List Op15 → Option (List ByteArray)
 | [] => none
 | o :: r => if o.c = c then some o.ts else opOf c r
def dropOp (c : Int) (l : List Op15) : List Op15 := l.filter fun o => !decide (o.c = c)
def putOp (c : Int) (ts : List ByteArray) : List Op15 → List Op15
 | [] => []
 | o :: r => if o.c = c then ⟨c, ts⟩ :: r else o :: putOp c ts r
def wrT (l : List Kv) (s : ByteArray) : List Kv := (writesF (planA s.data.toList).1 (ba (planA s.data.toList).2.1) (ba (planA s.data.toList).2.2) l).1
def rdT (s : ByteArray) (l : List Kv) : List ByteArray := readsF (planA s.data.toList).1 (ba (planA s.data.toList).2.1) l
def clsT (s : ByteArray) : Int := classA s.data.toList
def tabN (lg : List Lg) (ts : List ByteArray) : List Kv := ts.foldl wrT ((lg.map Lg.t).foldl wrT [])
def leadNd (n : Nd) (e : Int) : Nd := if e < n.ep then n else ⟨e, true, n.lg, []⟩
def closeNd (n : Nd) (c : Int) : Nd := { n with op := dropOp c n.op }
def layNd (n : Nd) (ts : List ByteArray) : Int × Nd := if 200 < n.lg.length + ts.length then (5, n) else (0, { n with lg := n.lg ++ ts.map fun t => ⟨n.ep, t⟩ })
def doNd (n : Nd) (c is : Int) (s : ByteArray) : Int × Nd :=
 match opOf c n.op with
 | some ts =>
   if is = 3 then (7, n) else if is = 4 then layNd (closeNd n c) ts else if is = 5 then (0, closeNd n c)
   else if is = 2 ∨ is = 7 then (if 200 ≤ ts.length then (5, n) else (0, { n with op := putOp c (ts ++ [s]) n.op })) else (0, n)
 | none =>
   if is = 4 ∨ is = 5 then (7, n) else if is = 3 then (0, { n with op := n.op ++ [⟨c, []⟩] })
   else if is = 2 ∨ is = 7 then layNd n [s] else (0, n)
def whyNd (n : Nd) (e : Int) (rd : Bool) (is : Int) : Int :=
 if e ≠ n.ep then 8 else if is = 0 ∨ (rd = true ∧ is ≠ 1) then 2 else if rd = false ∧ n.ld = false then 7 else 0
def waitsNd (n : Nd) (c : Int) : List ByteArray := (opOf c n.op).getD []
def runNd (n : Nd) (c e : Int) (rd : Bool) (s : ByteArray) : Rp × Nd :=
 if whyNd n e rd (clsT s) ≠ 0 then (⟨whyNd n e rd (clsT s), n.ep, n.lg.length, []⟩, n)
 else if clsT s ≠ 1 then (⟨(doNd n c (clsT s) s).1, (doNd n c (clsT s) s).2.ep, (doNd n c (clsT s) s).2.lg.length, []⟩, (doNd n c (clsT s) s).2)
 else (⟨0, n.ep, n.lg.length, rdT s (tabN n.lg (waitsNd n c))⟩, n)
def sameLg : List Lg → List Lg → Nat
 | a :: r, b :: q => if a = b then sameLg r q + 1 else 0
 | _, _ => 0
def turnNd (n f : Nd) : Nd := if n.ep < f.ep then ⟨f.ep, false, n.lg, []⟩ else n
def manyNd (n f : Nd) (m : Int) : Nat := min (f.lg.length - sameLg n.lg f.lg) m.toNat
def copyNd (n f : Nd) (m : Int) : Int × Nd :=
 if f.ep < n.ep ∨ (f.ep = n.ep ∧ n.ld = true) then (0, n)
 else (manyNd n f m, { turnNd n f with lg := f.lg.take (sameLg n.lg f.lg + manyNd n f m) })
theorem sameLg_le : ∀ (a b : List Lg), sameLg a b ≤ a.length ∧ sameLg a b ≤ b.length
 | [], _ => ⟨Nat.zero_le _, Nat.zero_le _⟩
 | _ :: _, [] => ⟨Nat.zero_le _, Nat.zero_le _⟩
 | a :: r, b :: q => by
   unfold sameLg; have := sameLg_le r q; split
   · simp only [List.length_cons]; omega
   · exact ⟨Nat.zero_le _, Nat.zero_le _⟩
theorem sameLg_take : ∀ (a b : List Lg), a.take (sameLg a b) = b.take (sameLg a b)
 | [], _ => by simp [sameLg]
 | _ :: _, [] => by simp [sameLg]
 | a :: r, b :: q => by
   unfold sameLg; split
   · rename_i h
     rw [List.take_succ_cons, List.take_succ_cons, h, sameLg_take r q]
   · rfl
theorem sameLg_at : ∀ (a b : List Lg) (k : Nat) (ha : k < a.length) (hb : k < b.length), k < sameLg a b → a[k] = b[k]
 | a :: r, b :: q, 0, _, _, h => by
   unfold sameLg at h; split at h
   · assumption
   · omega
 | a :: r, b :: q, k + 1, ha, hb, h => by
   unfold sameLg at h; split at h
   · exact sameLg_at r q k (by simpa using ha) (by simpa using hb) (by omega)
   · omega
theorem sameLg_ne : ∀ (a b : List Lg) (ha : sameLg a b < a.length) (hb : sameLg a b < b.length), a[sameLg a b] ≠ b[sameLg a b]
 | [], _, ha, _ => by simp at ha
 | _ :: _, [], _, hb => by simp at hb
 | a :: r, b :: q, ha, hb => by
   by_cases h : a = b
   · have e : sameLg (a :: r) (b :: q) = sameLg r q + 1 := by rw [sameLg, if_pos h]
     simp only [e, List.length_cons, List.getElem_cons_succ] at ha hb ⊢; exact sameLg_ne r q (by omega) (by omega)
   · have e : sameLg (a :: r) (b :: q) = 0 := by rw [sameLg, if_neg h]
     simp only [e, List.getElem_cons_zero]; exact h
theorem sameLg_of {a b : List Lg} {k : Nat} (h1 : k ≤ a.length) (h2 : k ≤ b.length) (he : a.take k = b.take k) (hn : ∀ (ha : k < a.length) (hb : k < b.length), a[k] ≠ b[k]) : sameLg a b = k := by
 have hlt : ∀ j (ha : j < a.length) (hb : j < b.length), j < k → a[j] = b[j] := fun j ha hb hj => by
  have h3 : (a.take k)[j]? = (b.take k)[j]? := by rw [he]
  rw [List.getElem?_take_of_lt hj, List.getElem?_take_of_lt hj, List.getElem?_eq_getElem ha, List.getElem?_eq_getElem hb] at h3; exact Option.some.inj h3
 rcases Nat.lt_trichotomy (sameLg a b) k with h | h | h
 · have := sameLg_ne a b (by omega) (by omega); exact absurd (hlt _ _ _ h) this
 · exact h
 · have := sameLg_le a b; exact absurd (sameLg_at a b k (by omega) (by omega) h) (hn (by omega) (by omega))
theorem opOf_none {c : Int} : ∀ {l : List Op15}, opOf c l = none ↔ ∀ o ∈ l, o.c ≠ c
 | [] => by simp [opOf]
 | o :: r => by
   unfold opOf; by_cases h : o.c = c
   · simp [h]
   · rw [if_neg h, opOf_none]; simp [h]
theorem opOf_at {c : Int} : ∀ {l : List Op15} {k : Nat} (hk : k < l.length), (∀ j (hj : j < l.length), j < k → l[j].c ≠ c) → l[k].c = c → opOf c l = some l[k].ts
 | o :: r, 0, _, _, h => if_pos h
 | o :: r, k + 1, hk, h1, h2 => by
   have h0 : o.c ≠ c := h1 0 (by simp) (by omega); unfold opOf; rw [if_neg h0]; exact opOf_at (l := r) (k := k) (by simpa using hk) (fun j hj hjk => by have := h1 (j + 1) (by simpa using hj) (by omega); exact this) h2
theorem dropOp_at {c : Int} : ∀ {l : List Op15} {k : Nat} (hk : k < l.length), (l.map Op15.c).Nodup → l[k].c = c → dropOp c l = l.take k ++ l.drop (k + 1)
 | o :: r, 0, _, hn, h => by
   obtain rfl : o.c = c := h; rw [List.map_cons, List.nodup_cons] at hn; unfold dropOp; rw [List.filter_cons_of_neg (by simp)]; simp only [List.take_zero, List.nil_append, List.drop_succ_cons, List.drop_zero]
   exact List.filter_eq_self.2 fun x hx => by
    have : x.c ≠ o.c := fun e => hn.1 (e ▸ List.mem_map.2 ⟨x, hx, rfl⟩); simpa using this
 | o :: r, k + 1, hk, hn, h => by
   rw [List.map_cons, List.nodup_cons] at hn; have hkr : k < r.length := by simpa using hk
   have ho : o.c ≠ c := fun e => hn.1 (by
    rw [e, ← h]
    exact List.mem_map.2 ⟨_, List.getElem_mem hkr, rfl⟩)
   have := dropOp_at (l := r) hkr hn.2 h; unfold dropOp at this ⊢; rw [List.filter_cons_of_pos (by simpa using ho), this]; rfl
theorem dropOp_no {c : Int} {l : List Op15} (h : ∀ o ∈ l, o.c ≠ c) : dropOp c l = l := List.filter_eq_self.2 fun x hx => by simpa using h x hx
theorem putOp_at {c : Int} (ts : List ByteArray) : ∀ {l : List Op15} {k : Nat} (hk : k < l.length), (∀ j (hj : j < l.length), j < k → l[j].c ≠ c) → l[k].c = c → putOp c ts l = l.set k ⟨c, ts⟩
 | o :: r, 0, _, _, h => if_pos h
 | o :: r, k + 1, hk, h1, h2 => by
   have h0 : o.c ≠ c := h1 0 (by simp) (by omega); unfold putOp; rw [if_neg h0, List.set_cons_succ, putOp_at ts (l := r) (k := k) (by simpa using hk) (fun j hj hjk => by have := h1 (j + 1) (by simpa using hj) (by omega); exact this) h2]
theorem dropOp_sub (c : Int) (l : List Op15) : (dropOp c l).Sublist l := List.filter_sublist
theorem dropOp_of (c d : Int) : ∀ l : List Op15, opOf d (dropOp c l) = if d = c then none else opOf d l
 | [] => by simp [dropOp, opOf]
 | o :: r => by
   have ih := dropOp_of c d r; unfold dropOp at ih ⊢; by_cases h : o.c = c
   · rw [List.filter_cons_of_neg (by simpa using h), ih]; by_cases hd : d = c
     · rw [if_pos hd, if_pos hd]
     · rw [if_neg hd, if_neg hd, opOf, if_neg (fun e => hd (e.symm.trans h))]
   · rw [List.filter_cons_of_pos (by simpa using h), opOf, ih]; by_cases hd : d = c
     · rw [if_pos hd, if_pos hd, if_neg (fun e => h (e.trans hd))]
     · rw [if_neg hd, if_neg hd]; rfl
theorem putOp_of (c d : Int) (ts : List ByteArray) : ∀ l : List Op15, opOf d (putOp c ts l) = if d = c then (opOf c l).map fun _ => ts else opOf d l
 | [] => by simp [putOp, opOf]
 | o :: r => by
   have ih := putOp_of c d ts r; unfold putOp; by_cases h : o.c = c
   · rw [if_pos h]; by_cases hd : d = c
     · rw [if_pos hd, opOf, if_pos hd.symm, opOf, if_pos h]; rfl
     · rw [if_neg hd, opOf, if_neg (fun e => hd (Eq.symm e)), opOf, if_neg (fun e => hd (e.symm.trans h))]
   · rw [if_neg h, opOf, ih]; by_cases hd : d = c
     · rw [if_pos hd, if_pos hd, if_neg (fun e => h (e.trans hd)), opOf, if_neg h]
     · rw [if_neg hd, if_neg hd]; rfl
theorem putOp_cs (c : Int) (ts : List ByteArray) : ∀ l : List Op15, (putOp c ts l).map Op15.c = l.map Op15.c
 | [] => rfl
 | o :: r => by
   unfold putOp; split
   · rename_i h; rw [List.map_cons, List.map_cons, h]
   · rw [List.map_cons, List.map_cons, putOp_cs c ts r]
def Sm (s : ByteArray) : Prop := s.size ≤ 300
structure NdI (k : Nat) (n : Nd) : Prop where
 e0 : 0 ≤ n.ep
 eu : n.ep < 18446744073709551616
 lg : n.lg.length ≤ 200
 lt : ∀ x ∈ n.lg, Sm x.t ∧ 0 ≤ x.e ∧ x.e < 18446744073709551616
 nd : (n.op.map Op15.c).Nodup
 ol : n.op.length ≤ k
 oc : ∀ o ∈ n.op, -9223372036854775808 ≤ o.c ∧ o.c ≤ 9223372036854775807 ∧ o.ts.length ≤ 200 ∧ ∀ s ∈ o.ts, Sm s
section
variable {k : Nat} {n f : Nd}
theorem NdI.new : NdI 0 newNd := ⟨by decide, by decide, Nat.zero_le _, (fun _ h => nomatch h), List.nodup_nil, Nat.le_refl _, (fun _ h => nomatch h)⟩
theorem NdI.more {k' : Nat} (h : NdI k n) (hk : k ≤ k') : NdI k' n := { h with ol := Nat.le_trans h.ol hk }
theorem NdI.lead (h : NdI k n) {e : Int} (h0 : 0 ≤ e) (h1 : e < 18446744073709551616) : NdI k (leadNd n e) := by
 unfold leadNd; split
 · exact h
 · exact ⟨h0, h1, h.lg, h.lt, List.nodup_nil, Nat.zero_le _, (fun _ h => nomatch h)⟩
theorem NdI.close (h : NdI k n) (c : Int) : NdI k (closeNd n c) :=
 { h with
  nd := List.Sublist.nodup (List.Sublist.map _ (dropOp_sub c n.op)) h.nd
  ol := Nat.le_trans (dropOp_sub c n.op).length_le h.ol
  oc := fun o ho => h.oc o ((dropOp_sub c n.op).subset ho) }
theorem NdI.lay (h : NdI k n) {ts : List ByteArray} (ht : ∀ s ∈ ts, Sm s) : NdI k (layNd n ts).2 := by
 unfold layNd; split
 · exact h
 · rename_i hl
   refine { h with lg := by simpa using by omega, lt := fun x hx => ?_ }; rcases List.mem_append.1 hx with hx | hx
   · exact h.lt x hx
   · obtain ⟨s, hs, rfl⟩ := List.mem_map.1 hx; exact ⟨ht s hs, h.e0, h.eu⟩
theorem opOf_mem {c : Int} {ts : List ByteArray} : ∀ {l : List Op15}, opOf c l = some ts → ∃ o ∈ l, o.c = c ∧ o.ts = ts
 | o :: r, h => by
   unfold opOf at h; split at h
   · rename_i e
     exact ⟨o, by simp, e, Option.some.inj h⟩
   · obtain ⟨q, hq, h2⟩ := opOf_mem h; exact ⟨q, List.mem_cons_of_mem _ hq, h2⟩
theorem putOp_mem {c : Int} {ts : List ByteArray} : ∀ {l : List Op15} {o : Op15}, o ∈ putOp c ts l → o ∈ l ∨ o = ⟨c, ts⟩
 | q :: r, o, h => by
   unfold putOp at h; split at h
   · rcases List.mem_cons.1 h with h | h
     · exact .inr h
     · exact .inl (List.mem_cons_of_mem _ h)
   · rcases List.mem_cons.1 h with h | h
     · exact .inl (by rw [h]; simp)
     · exact (putOp_mem h).imp (List.mem_cons_of_mem _) id
theorem putOp_len (c : Int) (ts : List ByteArray) (l : List Op15) : (putOp c ts l).length = l.length := by
 have := congrArg List.length (putOp_cs c ts l); simpa using this
theorem NdI.does (h : NdI k n) {c is : Int} {s : ByteArray} (hs : Sm s) (h0 : -9223372036854775808 ≤ c) (h1 : c ≤ 9223372036854775807) : NdI (k + 1) (doNd n c is s).2 := by
 unfold doNd
 cases ho : opOf c n.op with
 | some ts =>
   obtain ⟨o, hm, hc, rfl⟩ := opOf_mem ho; obtain ⟨_, _, h4, h5⟩ := h.oc o hm; dsimp only; split
   · exact h.more (Nat.le_succ k)
   split
   · exact ((h.close c).lay h5).more (Nat.le_succ k)
   split
   · exact (h.close c).more (Nat.le_succ k)
   split
   · split
     · exact h.more (Nat.le_succ k)
     · rename_i hf
       refine { h with nd := by show ((putOp _ _ _).map Op15.c).Nodup; rw [putOp_cs]; exact h.nd, ol := by show (putOp _ _ _).length ≤ k + 1; rw [putOp_len]; exact Nat.le_succ_of_le h.ol, oc := fun q hq => ?_ }; rcases putOp_mem hq with hq | rfl
       · exact h.oc q hq
       · refine ⟨h0, h1, by simp; omega, fun x hx => ?_⟩; rcases List.mem_append.1 hx with hx | hx
         · exact h5 x hx
         · rw [List.mem_singleton.1 hx]; exact hs
   · exact h.more (Nat.le_succ k)
 | none =>
   dsimp only; split
   · exact h.more (Nat.le_succ k)
   split
   · refine { h with nd := ?_, ol := by simpa using h.ol, oc := fun q hq => ?_ }
     · show ((n.op ++ [Op15.mk c []]).map Op15.c).Nodup; rw [List.map_append, List.nodup_append]; refine ⟨h.nd, by simp, fun a ha b hb => ?_⟩; obtain ⟨o, ho', rfl⟩ := List.mem_map.1 ha; have : b = c := by simpa using hb
       subst this; exact opOf_none.1 ho o ho'
     · rcases List.mem_append.1 hq with hq | hq
       · exact h.oc q hq
       · rw [List.mem_singleton.1 hq]; exact ⟨h0, h1, by simp, (fun _ h => nomatch h)⟩
   split
   · exact (h.lay (ts := [s]) fun x hx => by rw [List.mem_singleton.1 hx]; exact hs).more (Nat.le_succ k)
   · exact h.more (Nat.le_succ k)
theorem NdI.run (h : NdI k n) {c e : Int} {rd : Bool} {s : ByteArray} (hs : Sm s) (h0 : -9223372036854775808 ≤ c) (h1 : c ≤ 9223372036854775807) : NdI (k + 1) (runNd n c e rd s).2 := by
 unfold runNd; split
 · exact h.more (Nat.le_succ k)
 split
 · exact h.does hs h0 h1
 · exact h.more (Nat.le_succ k)
theorem NdI.copy {kf : Nat} (h : NdI k n) (hf : NdI kf f) (m : Int) : NdI k (copyNd n f m).2 := by
 unfold copyNd; split
 · exact h
 · have hl : (f.lg.take (sameLg n.lg f.lg + manyNd n f m)).length ≤ 200 := Nat.le_trans (by rw [List.length_take]; exact Nat.min_le_right _ _) hf.lg; have ht : ∀ x ∈ f.lg.take (sameLg n.lg f.lg + manyNd n f m), Sm x.t ∧ 0 ≤ x.e ∧ x.e < 18446744073709551616 := fun x hx => hf.lt x (List.mem_of_mem_take hx); unfold turnNd; split
   · exact ⟨hf.e0, hf.eu, hl, ht, List.nodup_nil, Nat.zero_le _, (fun _ h => nomatch h)⟩
   · exact { h with lg := hl, lt := ht }
end
theorem wrT_srt {l : List Kv} (s : ByteArray) (h : Srt l) : Srt (wrT l s) := writes_srt _ _ _ h
theorem wrT_len (l : List Kv) (s : ByteArray) : (wrT l s).length ≤ l.length + 1 := by
 unfold wrT writesF; have hp := posF_le (ba (planA s.data.toList).2.1) l; split
 · unfold restF; split <;> simp <;> omega
 · split
   · unfold restF; split <;> simp <;> omega
   · exact Nat.le_succ _
theorem folds_srt : ∀ (ts : List ByteArray) {l : List Kv}, Srt l → Srt (ts.foldl wrT l)
 | [], _, h => h
 | s :: r, _, h => folds_srt r (wrT_srt s h)
theorem folds_len : ∀ (ts : List ByteArray) (l : List Kv), (ts.foldl wrT l).length ≤ l.length + ts.length
 | [], _ => Nat.le_refl _
 | s :: r, l => by
   have h1 := folds_len r (wrT l s); have h2 := wrT_len l s; simp only [List.foldl_cons, List.length_cons]; omega
theorem tabN_srt (lg : List Lg) (ts : List ByteArray) : Srt (tabN lg ts) := folds_srt _ (folds_srt _ List.Pairwise.nil)
theorem tabN_len (lg : List Lg) (ts : List ByteArray) : (tabN lg ts).length ≤ lg.length + ts.length := by
 have h1 := folds_len ts ((lg.map Lg.t).foldl wrT []); have h2 := folds_len (lg.map Lg.t) []; simp only [List.length_map, List.length_nil] at h2; unfold tabN; omega
def idxOp (c : Int) : List Op15 → Int
 | [] => -1
 | o :: r => if o.c = c then 0 else if idxOp c r < 0 then -1 else idxOp c r + 1
theorem idxOp_ge (c : Int) : ∀ l : List Op15, -1 ≤ idxOp c l
 | [] => Int.le_refl _
 | o :: r => by
   have := idxOp_ge c r; unfold idxOp; split
   · omega
   · split <;> omega
theorem idxOp_at {c : Int} : ∀ {l : List Op15} {k : Nat} (hk : k < l.length), (∀ j (hj : j < l.length), j < k → l[j].c ≠ c) → l[k].c = c → idxOp c l = k
 | o :: r, 0, _, _, h => if_pos h
 | o :: r, k + 1, hk, h1, h2 => by
   have h0 : o.c ≠ c := h1 0 (by simp) (by omega); have ih := idxOp_at (l := r) (k := k) (by simpa using hk) (fun j hj hjk => by have := h1 (j + 1) (by simpa using hj) (by omega); exact this) h2; unfold idxOp; rw [if_neg h0, ih, if_neg (by omega)]; omega
theorem idxOp_none {c : Int} : ∀ {l : List Op15}, (∀ o ∈ l, o.c ≠ c) → idxOp c l = -1
 | [], _ => rfl
 | o :: r, h => by
   unfold idxOp; rw [if_neg (h o (by simp)), idxOp_none (fun q hq => h q (List.mem_cons_of_mem _ hq)), if_pos (by omega)]
theorem idxOp_is {c : Int} : ∀ {l : List Op15} {k : Nat}, idxOp c l = k → ∃ hk : k < l.length, l[k].c = c ∧ ∀ j (hj : j < l.length), j < k → l[j].c ≠ c
 | [], k, h => by simp [idxOp] at h
 | o :: r, k, h => by
   unfold idxOp at h; split at h
   · rename_i e
     obtain rfl : k = 0 := by omega
     exact ⟨by simp, e, fun j _ hj => absurd hj (Nat.not_lt_zero _)⟩
   · rename_i e
     split at h
     · omega
     · obtain ⟨k', rfl⟩ : ∃ k', k = k' + 1 := ⟨k - 1, by have := idxOp_ge c r; omega⟩; obtain ⟨hk, h1, h2⟩ := idxOp_is (c := c) (l := r) (k := k') (by omega); refine ⟨by simpa using hk, h1, fun j hj hjk => ?_⟩
       cases j with
       | zero => exact e
       | succ j => exact h2 j (by simpa using hj) (by omega)
theorem idxOp_no {c : Int} : ∀ {l : List Op15}, idxOp c l < 0 → ∀ o ∈ l, o.c ≠ c
 | [], _, _, h => nomatch h
 | o :: r, h, q, hq => by
   unfold idxOp at h; split at h
   · omega
   · rename_i e
     split at h
     · rename_i h2
       rcases List.mem_cons.1 hq with rfl | hq
       · exact e
       · exact idxOp_no h2 q hq
     · have := idxOp_ge c r; omega
theorem idxOp_of {c : Int} {l : List Op15} {k : Nat} (h : idxOp c l = k) : ∃ hk : k < l.length, opOf c l = some l[k].ts := by
 obtain ⟨hk, h1, h2⟩ := idxOp_is h; exact ⟨hk, opOf_at hk h2 h1⟩
def lgC (l : List Lg) : List Value := l.flatMap fun x => [.int .u64 x.e, .string x.t]
theorem lgC_append (a b : List Lg) : lgC (a ++ b) = lgC a ++ lgC b := by simp [lgC]
theorem lgC_length : ∀ ts : List Lg, (lgC ts).length = ts.length * 2
 | [] => rfl
 | r :: rs => by
   have := lgC_length rs; simp only [lgC, List.flatMap_cons, List.length_append, List.length_cons, List.length_nil] at this ⊢; omega
theorem lgC_at : ∀ (rs : List Lg) (j : Nat) (h : j < rs.length), (lgC rs)[j * 2]? = some (.int .u64 rs[j].e) ∧ (lgC rs)[j * 2 + 1]? = some (.string rs[j].t)
 | [], _, h => by simp at h
 | r :: rs, 0, _ => by simp [lgC]
 | r :: rs, j + 1, h => by
   have := lgC_at rs j (by simpa using h); have e1 : (j + 1) * 2 = j * 2 + 2 := by omega
   simp only [lgC, List.flatMap_cons] at this ⊢; rw [e1]; simpa using this
theorem lgC_one : ∀ (l : List Lg), ∀ u ∈ lgC l, u.oneCell' = true
 | [], _, h => by simp [lgC] at h
 | c :: cs, u, h => by
   simp only [lgC, List.flatMap_cons, List.mem_append, List.mem_cons, List.not_mem_nil, or_false] at h; rcases h with (rfl | rfl) | h
   · rfl
   · rfl
   · exact lgC_one cs u h
structure LR (w : World) (A : Option Addr) (n : Nat) (ts : List Lg) : Prop where
 len : ts.length = n
 rd : Rd w w.heap.size A (lgC ts)
theorem LR.next {w w' : World} {A : Option Addr} {n : Nat} {ts : List Lg} (h : LR w A n ts) (hb : Below w.heap.size w w') : LR w' A n ts := ⟨h.len, (h.rd.below hb (Nat.le_refl _)).more hb.size⟩
theorem LR.off {w w' : World} {A : Option Addr} {n : Nat} {ts : List Lg} (h : LR w A n ts) (hz : w.heap.size ≤ w'.heap.size) (hk : ∀ ad, A = some ad → w'.heap[ad.block]? = w.heap[ad.block]?) : LR w' A n ts := by
 refine ⟨h.len, ?_⟩; rcases h.rd with h | ⟨ad, e, hlt, hc⟩
 · exact .inl h
 · exact .inr ⟨ad, e, Nat.lt_of_lt_of_le hlt hz, fun j u hu => (World.cell?_of_block (by rw [add_block]; exact hk ad e)).trans (hc j u hu)⟩
theorem LR.nil (w : World) : LR w none 0 [] := ⟨rfl, .inl rfl⟩
theorem LR.of_own {w : World} {base n c : Nat} {e : TypeId} {A : Option Addr} {ts : List Lg} (h : w.ownsRow base e 2 (.slice A n c) n (lgC ts)) : LR w A n ts := ⟨by have := h.1; rw [lgC_length] at this; omega, rd_own2 h⟩
theorem LR.at_ {w : World} {A : Option Addr} {n : Nat} {ts : List Lg} (h : LR w A n ts) {j : Nat} (hj : j < ts.length) : ∃ ad, A = some ad ∧ ad.block < w.heap.size ∧ ∀ w', Below w.heap.size w w' → w'.cell? (ad.add (j * 2)) = some (.int .u64 ts[j].e) ∧ w'.cell? ⟨(ad.add (j * 2)).block, (ad.add (j * 2)).off + 1, none⟩ = some (.string ts[j].t) := by
 obtain ⟨ad, hA, hb, hc⟩ := h.rd.addr (by rw [lgC_length]; omega)
 have key : ∀ (w' : World) (i : Nat) (v : Value), Below w.heap.size w w' → (lgC ts)[j * 2 + i]? = some v → w'.cell? (ad.add (j * 2 + i)) = some v := fun w' i v hw hv => by
  rw [hw.cell (by rw [add_block]; exact hb)]; exact hc _ _ hv
 obtain ⟨e0, e1⟩ := lgC_at ts j hj; have a1 : ∀ i, i ≠ 0 → (⟨(ad.add (j * 2)).block, (ad.add (j * 2)).off + i, none⟩ : Addr) = ad.add (j * 2 + i) := fun i hi => by rw [← add_add]; unfold Addr.add; simp [hi]
 refine ⟨ad, hA, hb, fun w' hw => ⟨key w' 0 _ hw e0, ?_⟩⟩; rw [a1 1 (by decide)]; exact key w' 1 _ hw e1
end

/- Where a key stands in a table: place, and the library's binary search, by calls: contracts. -/
section
open Go.RowKit
set_option maxRecDepth 100000
def cmpB (a b : ByteArray) : Int := if ltB a b then -1 else if a = b then 0 else 1
theorem cmpB_lt {a b : ByteArray} : decide (cmpB a b < 0) = ltB a b := by
 unfold cmpB
 cases ltB a b with
 | true => rfl
 | false =>
   by_cases h : a = b
   · rw [if_neg (by simp), if_pos h]; rfl
   · rw [if_neg (by simp), if_neg h]; rfl
theorem cmpB_eq {a b : ByteArray} : (cmpB a b == 0) = decide (a = b) := by
 unfold cmpB; by_cases h : a = b
 · subst h; rw [ltB_irrefl]; simp
 · cases ltB a b with
   | true => simp [h]
   | false => simp [h]
theorem ret_b {a b : Bool} (h : a = b) : Ending.returned (.bool a) = .returned (.bool b) := by rw [h]
theorem isNaN_ok (s : ByteArray) (w : World) : Calls Tryz.prog 216 #[.string s] w fun e w' => e = .returned (.bool false) ∧ w = w' := by
 go_enter Tryz.func216, Tryz.ntmps216; go_wp2_with fail; go_ret; exact ⟨ret_b (by simp), rfl⟩
set_option maxHeartbeats 1000000 in
theorem compare_ok (a b : ByteArray) (w : World) : Calls Tryz.prog 199 #[.string a, .string b] w fun e w' => e = .returned (.int .i64 (cmpB a b)) ∧ w = w' := by
 have H1 := fun u => isNaN_ok a u; have H2 := fun u => isNaN_ok b u; have hR : cmpB a b = if ltB a b then -1 else if a = b then 0 else 1 := rfl; have hT : ∀ x, Hid (ltB a b = x) → Op.bytesLess a.toList b.toList = x := fun x h => h.out
 cases hl : ltB a b with
 | true =>
   rw [hl, if_pos rfl] at hR; have hb := hT _ (hid hl); have HR := hid hR; clear hl hT hR; go_enter Tryz.func199, Tryz.ntmps199; go_wp2_with fail; refine (H1 _).mono ?_; rintro e w1 ⟨rfl, rfl⟩; go_wp2_with fail; refine (H2 _).mono ?_; rintro e w1 ⟨rfl, rfl⟩; go_wp2_with fail; go_ret; exact ⟨by rw [HR.out]; rfl, rfl⟩
 | false =>
   rw [hl, if_neg (by simp)] at hR; have hb := hT _ (hid hl); by_cases he : a = b
   · rw [if_pos he] at hR; have hb2 : (a.toList == b.toList) = true := by rw [he]; simp
     have HR := hid hR; clear hl hT hR he; go_enter Tryz.func199, Tryz.ntmps199; go_wp2_with fail; refine (H1 _).mono ?_; rintro e w1 ⟨rfl, rfl⟩; go_wp2_with fail; refine (H2 _).mono ?_; rintro e w1 ⟨rfl, rfl⟩; go_wp2_with fail; go_ret; exact ⟨by rw [HR.out]; rfl, rfl⟩
   · rw [if_neg he] at hR
     have hb2 : (a.toList == b.toList) = false := by
      simp only [beq_eq_false_iff_ne, ne_eq]; exact fun h => he (bytes_ext h)
     have HR := hid hR; clear hl hT hR he; go_enter Tryz.func199, Tryz.ntmps199; go_wp2_with fail; refine (H1 _).mono ?_; rintro e w1 ⟨rfl, rfl⟩; go_wp2_with fail; refine (H2 _).mono ?_; rintro e w1 ⟨rfl, rfl⟩; go_wp2_with fail; go_ret; exact ⟨by rw [HR.out]; rfl, rfl⟩
theorem keyOf_ok (k v : ByteArray) (w : World) : Calls Tryz.prog 180 #[.agg #[.string k, .string v]] w fun e w' => e = .returned (.string k) ∧ Below w.heap.size w w' := by
 have kw := kp_new w (.cells #[.string k, .string v] 250); go_enter Tryz.func180, Tryz.ntmps180; go_wp2_with fail; go_ret; exact ⟨rfl, kw⟩
set_option maxHeartbeats 1000000 in
theorem against_ok (k v key : ByteArray) (b : Nat) (w : World) (hc : w.cell? ⟨b, 0, none⟩ = some (.func (.func 180) #[] #[])) (hlt : b < w.heap.size) :
 Calls Tryz.prog 198 #[.agg #[.string k, .string v], .string key, .pointer (some ⟨b, 0, none⟩)] w fun e w' => e = .returned (.int .i64 (cmpB k key)) ∧ Below w.heap.size w w' := by
 have kw := kp_new w (.cells #[.string k, .string v] 250); go_enter Tryz.func198, Tryz.ntmps198; go_wp2_with fail; refine (keyOf_ok k v _).mono ?_; rintro e w1 ⟨rfl, k1⟩; go_wp2_with fail; refine (compare_ok k key _).mono ?_; rintro e w2 ⟨rfl, rfl⟩; go_wp2_with fail; go_ret; exact ⟨rfl, kp_trans kw k1⟩
set_option maxHeartbeats 2000000 in
theorem search_ok (A : Option Addr) (n c : Nat) (ts : List Kv) (key : ByteArray) (b : Nat) (w : World) (h : KR w A n ts) (hs : Srt ts) (hn : n ≤ 1000000) (hc : w.cell? ⟨b, 0, none⟩ = some (.func (.func 180) #[] #[])) (hlt : b < w.heap.size) :
 Calls Tryz.prog 197 #[.slice A n c, .string key, .func (.func 198) #[] #[.pointer (some ⟨b, 0, none⟩)]] w
  fun e w' => e = .returned (.tuple #[.int .i64 (posF key ts : Nat), .bool (thereF key ts)]) ∧ Below w.heap.size w w' := by
 have HL := hid h.len; have HS := hid hs; have HH := hid h; have HC := hid hc; have HB := hid hlt; clear h hs hc hlt; go_enter Tryz.func197, Tryz.ntmps197
 go_wp2
 go_loopw [9, 10] (fun i j wr => ∃ lo hi : Nat, i = .int .i64 lo ∧ j = .int .i64 hi ∧ lo ≤ hi ∧ hi ≤ n ∧ Hid (∀ t (ht : t < ts.length), t < lo → ltB ts[t].k key = true) ∧ Hid (∀ t (ht : t < ts.length), hi ≤ t → ltB ts[t].k key = false) ∧ Below w.heap.size w wr) (fun i j _ => (intOf j).toNat - (intOf i).toNat)
 case atStart => exact ⟨0, n, rfl, rfl, Nat.zero_le _, Nat.le_refl _, hid (fun t _ h => absurd h (Nat.not_lt_zero _)), hid (fun t ht h => by have := HL.out; omega), Below.refl _ _⟩
 case round =>
  obtain ⟨lo, hi, rfl, rfl, hlh, hin, I1, I2, k0⟩ := hrel; by_cases hlt : lo < hi
  · have hm : (lo + hi) / 2 < ts.length := by rw [HL.out]; omega
    obtain ⟨ad, rfl, _, hcc⟩ := HH.out.at_ hm; obtain ⟨c0, c1⟩ := hcc _ k0; clear hcc; have HA := hid (against_ok ts[(lo + hi) / 2].k ts[(lo + hi) / 2].v key b wr ((k0.cell HB.out).trans HC.out) (Nat.lt_of_lt_of_le HB.out k0.size)); have HE := hid (cmpB_lt (a := ts[(lo + hi) / 2].k) (b := key))
    cases hl : ltB ts[(lo + hi) / 2].k key with
    | true =>
      have J1 : Hid (∀ t (ht : t < ts.length), t < (lo + hi) / 2 + 1 → ltB ts[t].k key = true) := hid (fun t ht h => by
       by_cases he : t = (lo + hi) / 2
       · subst he; exact hl
       · exact ltB_trans (HS.out.at_ hm (show t < (lo + hi) / 2 by omega)) hl)
      replace HE : Hid (decide (cmpB ts[(lo + hi) / 2].k key < 0) = true) := hid (by rw [HE.out, hl])
      clear hl I1; generalize ts[(lo + hi) / 2].k = x at *; generalize ts[(lo + hi) / 2].v = y at *; generalize cmpB x key = z at *; have hz : z < 0 := by simpa using HE.out
      go_wp2_with fail; refine HA.out.mono ?_; rintro e w1 ⟨rfl, k1⟩; go_wp2_with fail; go_roundw
      case rel => exact ⟨(lo + hi) / 2 + 1, hi, by go_num, rfl, by omega, hin, J1, I2, kp_trans k0 k1⟩
      case measure => simp [intOf]; omega
    | false =>
      have J2 : Hid (∀ t (ht : t < ts.length), (lo + hi) / 2 ≤ t → ltB ts[t].k key = false) := hid (fun t ht h => by
       by_cases he : t = (lo + hi) / 2
       · subst he; exact hl
       · cases h2 : ltB ts[t].k key with
         | false => rfl
         | true => rw [← hl]; exact (ltB_trans (HS.out.at_ (i := (lo + hi) / 2) ht (by omega)) h2).symm ▸ rfl)
      replace HE : Hid (decide (cmpB ts[(lo + hi) / 2].k key < 0) = false) := hid (by rw [HE.out, hl])
      clear hl I2; generalize ts[(lo + hi) / 2].k = x at *; generalize ts[(lo + hi) / 2].v = y at *; generalize cmpB x key = z at *; have hz : ¬ z < 0 := by simpa using HE.out
      go_wp2_with fail; refine HA.out.mono ?_; rintro e w1 ⟨rfl, k1⟩; go_wp2_with fail; go_roundw
      case rel => exact ⟨lo, (lo + hi) / 2, rfl, by go_num, by omega, by omega, I1, J2, kp_trans k0 k1⟩
      case measure => simp [intOf]; omega
  · obtain rfl : hi = lo := by omega
    have hpos : posF key ts = hi := posF_of (by rw [HL.out]; exact hin) (fun j hj h => I1.out j hj h) (fun h => I2.out hi h (Nat.le_refl _)); by_cases hn2 : hi < n
    · have hm : hi < ts.length := by rw [HL.out]; exact hn2
      obtain ⟨ad, rfl, _, hcc⟩ := HH.out.at_ hm; obtain ⟨c0, c1⟩ := hcc _ k0; clear hcc; have HA := hid (against_ok ts[hi].k ts[hi].v key b wr ((k0.cell HB.out).trans HC.out) (Nat.lt_of_lt_of_le HB.out k0.size)); have hE := cmpB_eq (a := ts[hi].k) (b := key)
      have hT : thereF key ts = decide (ts[hi].k = key) := by
       subst hpos; exact there_at hm
      rw [← hE] at hT; have HT := hid hT; have HP := hid hpos; clear hE hT hpos; generalize ts[hi].k = x at *; generalize ts[hi].v = y at *; generalize cmpB x key = z at *; go_wp2_with fail; refine HA.out.mono ?_; rintro e w1 ⟨rfl, k1⟩; go_wp2_with fail; go_ret2; exact ⟨by rw [HT.out, HP.out]; rfl, kp_trans k0 k1⟩
    · have hT : thereF key ts = false := there_end (by rw [HL.out, hpos]; exact hn2); have HT := hid hT; have HP := hid hpos; clear hT hpos; go_wp2_with fail; go_ret2; exact ⟨by rw [HT.out, HP.out]; rfl, k0⟩
theorem place_ok (A : Option Addr) (n c : Nat) (ts : List Kv) (key : ByteArray) (w : World) (h : KR w A n ts) (hs : Srt ts) (hn : n ≤ 1000000) :
 Calls Tryz.prog 179 #[.slice A n c, .string key, .func (.func 180) #[] #[]] w
  fun e w' => e = .returned (.tuple #[.int .i64 (posF key ts : Nat), .bool (thereF key ts)]) ∧ Below w.heap.size w w' := by
 have HH := hid h; clear h; go_enter Tryz.func179, Tryz.ntmps179; go_wp2_with fail; refine (search_ok A n c ts key w.heap.size _ (HH.out.next (kp_new w _)) hs hn ?_ (by simp)).mono ?_
 · rw [cell_of_row _ _ 0 #[_] _ (0, 0) (heap_alloc_new w _)]; rfl
 rintro e w1 ⟨rfl, k1⟩; go_wp2_with fail; go_ret2; exact ⟨rfl, kp_trans (kp_new w _) k1⟩
end

/- Rows of pairs cut, copied and laid behind one another: slices.Concat, slices.Clone: contracts. -/
section
open Go.RowKit
set_option maxRecDepth 100000
theorem kvinfo : (Tryz.prog.info? 250).map (fun i => (i.zero, i.size, i.bytes)) = some (some (.agg #[.string ⟨#[]⟩, .string ⟨#[]⟩]), 2, 32) := by kernel_rfl
theorem kvsize : (Tryz.prog.info? (Tryz.prog.elem 225)).map (·.size) = some 2 := by kernel_rfl
section
variable {w : World} {A : Option Addr} {n c : Nat} {ts : List Kv}
theorem KR.cut0 (h : KR w A n ts) (hc : n ≤ c) (P : Program) (t : TypeId) (ht : P.underlying t = some (.slice (P.elem t))) (hz : (P.info? (P.elem t)).map (·.size) = some 2) {j : Nat} (y : Int) (hy : y = j) (hj : j ≤ n) :
 ∃ A', (∀ u, (Instr.slice t (.slice A n c) none (some (.int .i64 y)) none).run P u = .ok (.slice A' j c) u) ∧ KR w A' j (ts.take j) := by
 obtain ⟨ti, hti, hsz⟩ := Option.map_eq_some_iff.1 hz; refine ⟨A, fun u => ?_, ⟨by rw [List.length_take, h.len]; omega, by rw [kvC_take]; exact h.rd.front _⟩⟩; subst hy; rw [run_slice_h u t A n c ht .i64 j (by omega) (by omega)]
 cases A with
 | none => simp [sizeOf, typeInfo, hti, hsz, sliced, Result.andThen]
 | some ad => simp [sizeOf, typeInfo, hti, hsz, sliced, Result.andThen, Addr.add]
theorem KR.cut1 (h : KR w A n ts) (hc : n ≤ c) (P : Program) (t : TypeId) (ht : P.underlying t = some (.slice (P.elem t))) (hz : (P.info? (P.elem t)).map (·.size) = some 2) {i : Nat} (x : Int) (hx : x = i) (hi : i ≤ n) :
 ∃ A', (∀ u, (Instr.slice t (.slice A n c) (some (.int .i64 x)) none none).run P u = .ok (.slice A' (n - i) (c - i)) u) ∧ KR w A' (n - i) (ts.drop i) := by
 obtain ⟨ti, hti, hsz⟩ := Option.map_eq_some_iff.1 hz; have hr := h.rd.cut (k := i * 2) (cap := c * 2) (by rw [kvC_length, h.len]; omega)
 have e : (if c * 2 = i * 2 then A else A.map (·.add (i * 2))) = if c = i then A else A.map (·.add (i * 2)) := by
  by_cases hci : c = i
  · rw [if_pos hci, if_pos (by rw [hci])]
  · rw [if_neg hci, if_neg (by omega)]
 rw [e] at hr; refine ⟨_, fun u => ?_, ⟨by rw [List.length_drop, h.len], by rw [kvC_drop]; exact hr⟩⟩; subst hx; rw [run_slice_l u t A n c ht .i64 i (by omega) (by omega)]; simp [sizeOf, typeInfo, hti, hsz, sliced, Result.andThen]
end
set_option maxHeartbeats 400000 in
theorem growk_nil (n : Nat) (w : World) (hn : n ≤ 1000000) :
 Calls Tryz.prog 215 #[.slice none 0 0, .int .i64 n] w fun e w' => ∃ A' c', e = .returned (.slice A' 0 c') ∧ OK 250 w' w.heap.size A' 0 c' [] ∧ Below w.heap.size w w' := by
 obtain ⟨i0, hi, hz0, hz1, hz2⟩ := info_parts kvinfo; rcases Nat.eq_zero_or_pos n with rfl | hpos
 · go_enter Tryz.func215, Tryz.ntmps215; go_wp2_with fail; go_ret; exact ⟨none, 0, rfl, OK.nil _ _ _, Below.refl _ _⟩
 · have hrz : ∀ ty, (Builtin.append_ #[225, 3] ty #[.slice none 0 0, .int .i64 (n : Int)]).run Tryz.prog w =
    .ok (.slice (some ⟨w.heap.size, 0, none⟩) n (grownCap w n 0 250)) (w.drew.alloc (.cells (([] : List Value).toArray ++ Builtin.zeroCells (Value.agg #[.string ⟨#[]⟩, .string ⟨#[]⟩]).cells n ++ Builtin.zeroCells (Value.agg #[.string ⟨#[]⟩, .string ⟨#[]⟩]).cells (grownCap w n 0 250 - n)) 250)) := fun ty => by
    have h := Lib.run_append_grow_zeros (P := Tryz.prog) w 225 3 ty 250 i0 (.agg #[.string ⟨#[]⟩, .string ⟨#[]⟩]) .i64 .i64 Tryz.underlying225 Tryz.underlying3 hi hz0 none 0 0 [] (run_firstCells_none w.drew i0.size 0 0 0) n hpos (by omega) (by omega) (by omega) (by rw [hz2]; omega)
     (by rw [hz2]; exact growslice_fits (by omega) (by omega))
    simpa using h
   have hG1 := grownCap_ge w n 0 250; have hG2 := grownCap_le_maxLen w n 0 250 (by unfold maxLen; omega); generalize grownCap w n 0 250 = G at *; have hg3 : G ≤ 9223372036854775807 := by unfold maxLen at hG2; omega
   go_enter Tryz.func215, Tryz.ntmps215; go_wp2_with (at_builtin; refine Lib.wpList_append_run _ rfl _ _ _ _ rfl _ _ rfl rfl _ _ (hrz _) ?_)
   all_goals
    go_ret; refine ⟨_, _, rfl, ⟨⟨by simp [kvC], .inr ⟨w.heap.size, G, _, rfl, Nat.le_refl _, heap_alloc_new w.drew _, by omega, hG2, ?_, by simp [kvC]⟩⟩, by omega⟩, (Below.refl _ _).drew.alloc (Nat.le_refl _) _⟩; simp only [size_zeroCells, List.size_toArray, Array.size_append]; simp; omega
structure PartK where
 A : Option Addr
 l : Nat
 c : Nat
 ts : List Kv
def flatK (ps : List PartK) : List Kv := ps.flatMap (·.ts)
theorem flatK_next (ps : List PartK) (k : Nat) (h : k < ps.length) : flatK (ps.take (k + 1)) = flatK (ps.take k) ++ ps[k].ts := by
 rw [List.take_succ_eq_append_getElem h]; simp only [flatK, List.flatMap_append, List.flatMap_cons, List.flatMap_nil, List.append_nil]
theorem sizesK_next (ps : List PartK) (k : Nat) (h : k < ps.length) : (flatK (ps.take (k + 1))).length = (flatK (ps.take k)).length + ps[k].ts.length := by
 rw [flatK_next ps k h, List.length_append]
theorem sizesK_le (ps : List PartK) (k : Nat) : (flatK (ps.take k)).length ≤ (flatK ps).length := by
 have h : flatK ps = flatK (ps.take k) ++ flatK (ps.drop k) := by rw [flatK, flatK, flatK, ← List.flatMap_append, List.take_append_drop]
 rw [h, List.length_append]; omega
set_option maxHeartbeats 800000 in
theorem concatk_any (ad : Addr) (m c : Nat) (ps : List PartK) (w : World) (hm : ps.length = m) (hm6 : m ≤ 1000) (had : ad.block < w.heap.size)
 (hc : ∀ j (h : j < ps.length), w.cell? (ad.add j) = some (.slice ps[j].A ps[j].l ps[j].c)) (hs : ∀ j (h : j < ps.length), KR w ps[j].A ps[j].l ps[j].ts) (htot : (flatK ps).length ≤ 900000) :
 Calls Tryz.prog 195 #[.slice (some ad) m c] w fun e w' => ∃ A' n' c', e = .returned (.slice A' n' c') ∧ OK 250 w' w.heap.size A' n' c' (flatK ps) ∧ Below w.heap.size w w' := by
 obtain ⟨i0, hi, hz0, hz1, hz2⟩ := info_parts kvinfo; have Hc := hid hc; have Hs := hid hs; have HM := hid hm; clear hc hs hm; go_enter Tryz.func195, Tryz.ntmps195; go_wp2_with fail
 go_loop [3, 11] (fun n i => ∃ k z : Nat, k ≤ m ∧ i = .int .i64 k ∧ n = .int .i64 z ∧ Hid ((flatK (ps.take k)).length = z) ∧ z ≤ 900000) (fun _ i => m - (intOf i).toNat)
 case atStart => exact ⟨0, 0, Nat.zero_le _, rfl, rfl, hid rfl, by omega⟩
 case round =>
  obtain ⟨k, z, hk, rfl, rfl, hz, hz9⟩ := hrel; by_cases hlt : k < m
  · have hkl : k < ps.length := by rw [HM.out]; exact hlt
    have hcell := Hc.out k hkl; have hl := (Hs.out k hkl).len; have hsn := sizesK_next ps k hkl; rw [hz.out, hl] at hsn; have hle := sizesK_le ps (k + 1); rw [hsn] at hle; have hle2 : z + ps[k].l ≤ 900000 := by omega
    generalize ps[k].l = lk at *; generalize ps[k].A = Ak at *; generalize ps[k].c = ck at *; have HSN := hid hsn; clear hsn hle hl; go_wp2_with fail
    go_round
    case rel => exact ⟨k + 1, z + lk, by omega, by go_num, by go_num, HSN, hle2⟩
    case measure => simp [intOf]; omega
  · obtain rfl : k = m := by omega
    go_wp2_with fail; refine (growk_nil z _ (by omega)).mono ?_; rintro e w1 ⟨A1, c1, rfl, ho1, hb1⟩; go_wp2_with fail
    go_loopw [6, 27] (fun v i wr => ∃ (q z' : Nat) (A' : Option Addr) (c' : Nat), q ≤ k ∧ i = .int .i64 q ∧ v = .slice A' z' c' ∧ z' ≤ 900000 ∧ OK 250 wr w.heap.size A' z' c' (flatK (ps.take q)) ∧ Below w.heap.size w wr) (fun _ i _ => k - (intOf i).toNat)
    case atStart => exact ⟨0, 0, A1, c1, Nat.zero_le _, rfl, rfl, by omega, ho1, hb1⟩
    case round =>
     obtain ⟨q, z', A2, c2, hq, rfl, rfl, hz9', ho2, hb2⟩ := hrel; by_cases hlt2 : q < k
     · have hkl : q < ps.length := by rw [HM.out]; exact hlt2
       have hcell := Hc.out q hkl; rw [← hb2.cell (by rw [add_block]; exact had)] at hcell; have hsq := (Hs.out q hkl).next hb2; have hl := (Hs.out q hkl).len; have hsn := sizesK_next ps q hkl; rw [ho2.len, hl] at hsn; have hle := sizesK_le ps (q + 1); rw [hsn] at hle; have hle2 : z' + ps[q].l ≤ 900000 := by omega
       have HF := hid (flatK_next ps q hkl); have hsz := hb2.size; generalize ps[q].l = lk at *; generalize ps[q].A = Ak at *; generalize ps[q].c = ck at *; generalize ps[q].ts = bk at *; have HSN := hid hsn; clear hsn hle hl; go_wp2_with (at_builtin; refine wpList_append_rds rfl _ _ _ rfl w.heap.size 250 i0 _ 2 32 Tryz.underlying225 hi hz0 hz1 hz2 rfl (by decide) _ z' _ rfl ho2.own wr.heap.size _ _ _ (kvC bk) rfl (by rw [kvC_length, hsq.len]) hsq.rd (kvC_one _) (by unfold maxLen; omega) (by omega) hsz ?_; intro v3 w3 hown3 hg3; rw [← kvC_append] at hown3; obtain ⟨A3, c3, rfl, hcap3, _⟩ := own_form_s hown3); go_roundw
       case rel => exact ⟨q + 1, z' + lk, A3, c3, by omega, by go_num, rfl, hle2, ⟨by rw [HF.out]; exact hown3, hcap3⟩, hb2.trans (below_own_s ho2.own hg3 hsz)⟩
       case measure => simp [intOf]; omega
     · obtain rfl : q = k := by omega
       go_wp2_with fail; go_ret; refine ⟨A2, z', c2, rfl, ?_, hb2⟩; rw [← List.take_of_length_le (l := ps) (by rw [HM.out]; exact Nat.le_refl _)]; exact ho2
theorem concatk_new (w : World) (ps : List PartK) (m : Nat) (hm : ps.length = m) (hm6 : m ≤ 1000) (hs : ∀ p ∈ ps, KR w p.A p.l p.ts) (htot : (flatK ps).length ≤ 900000) :
 Calls Tryz.prog 195 #[.slice (some ⟨w.heap.size, 0, none⟩) m m] (w.alloc (.cells (ps.map fun p => Value.slice p.A p.l p.c).toArray 225)) fun e w' => ∃ A' n' c', e = .returned (.slice A' n' c') ∧ OK 250 w' w.heap.size A' n' c' (flatK ps) ∧ Below w.heap.size w w' := by
 refine (concatk_any ⟨w.heap.size, 0, none⟩ m m ps _ hm hm6 (by simp) (fun j h => ?_) (fun j h => (hs _ (List.getElem_mem h)).next (kp_new _ _)) htot).mono fun e w' ⟨A', n', c', he, ho, hb⟩ => ⟨A', n', c', he, ho.base_ (by simp), kp_trans (kp_new _ _) hb⟩; rcases Rd.new w 225 (ps.map fun p => Value.slice p.A p.l p.c) with h0 | ⟨ad, e, _, hc⟩
 · have := congrArg List.length h0; simp at this
   subst this; simp at h
 · injection e with e; subst e; exact hc j _ (by simp [h])
set_option maxHeartbeats 800000 in
theorem clonek_ok (A : Option Addr) (n c : Nat) (ts : List Kv) (w : World) (h : KR w A n ts) (hn : n ≤ 1000000) :
 Calls Tryz.prog 196 #[.slice A n c] w fun e w' => ∃ A' n' c', e = .returned (.slice A' n' c') ∧ OK 250 w' w.heap.size A' n' c' ts ∧ Below w.heap.size w w' := by
 obtain ⟨i0, hi, hz0, hz1, hz2⟩ := info_parts kvinfo; have hq := fun u => Lib.run_eql_slice_nil (P := Tryz.prog) u 225 250 A n c 0 0 Tryz.underlying225
 cases A with
 | none =>
   obtain rfl : ts = [] := by
    rcases h.rd with h0 | ⟨_, h0, _⟩
    · have := kvC_length ts; rw [h0] at this; exact List.eq_nil_of_length_eq_zero (by simp at this; omega)
    · cases h0
   go_enter Tryz.func196, Tryz.ntmps196; go_wp2_with fail; go_ret; exact ⟨none, 0, 0, rfl, OK.nil _ _ _, Below.refl _ _⟩
 | some ad =>
   have ho := own_new_s w w.heap.size 2 250 0 [] rfl (Nat.le_refl _) (Nat.zero_le _); have hk := kp_new w (.cells #[] 250); have hr := h.next hk; generalize hw : w.alloc (.cells #[] 250) = w1 at *; have HW := hid hw; have ho' : w1.ownsRow w.heap.size 250 2 (.slice (some ⟨w.heap.size, 0, none⟩) 0 0) 0 [] := ho; clear hw; have hb1 := hk.size; go_enter Tryz.func196, Tryz.ntmps196; go_wp2_with (at_builtin; rw [HW.out]; refine wpList_append_rds rfl _ _ _ rfl w.heap.size 250 i0 _ 2 32 Tryz.underlying225 hi hz0 hz1 hz2 rfl (by decide) _ 0 _ rfl ho' w1.heap.size _ _ _ (kvC ts) rfl (by rw [kvC_length, hr.len]) hr.rd (kvC_one _) (by unfold maxLen; omega) (by omega) hb1 ?_; intro v3 w3 hown3 hg3; obtain ⟨A3, c3, rfl, hcap3, _⟩ := own_form_s hown3); go_ret; exact ⟨A3, _, c3, rfl, ⟨by simpa using hown3, by omega⟩, hk.trans (below_own_s ho' hg3 hb1)⟩
end

/- What is written to a table, by the call Writes of package plan: contract. -/
section
open Go.RowKit
set_option maxRecDepth 100000
def planV (d : Int) (k v : ByteArray) : Value := .agg #[.int .i64 d, .string k, .string v]
theorem cells3 {w : World} {b : Nat} {x y z : Value} {t : TypeId} (h : w.heap[b]? = some (.cells #[x, y, z] t (0, 0))) : w.cell? ⟨b, 0, none⟩ = some x ∧ w.cell? ⟨b, 1, none⟩ = some y ∧ w.cell? ⟨b, 2, none⟩ = some z := by
 refine ⟨?_, ?_, ?_⟩
 · rw [cell_of_row _ _ 0 #[x, y, z] t (0, 0) h]; rfl
 · rw [cell_of_row _ _ 1 #[x, y, z] t (0, 0) h]; rfl
 · rw [cell_of_row _ _ 2 #[x, y, z] t (0, 0) h]; rfl
theorem box3 {w u : World} {x y z : Value} {t : TypeId} (k : Below (w.alloc (.cells #[x, y, z] t)).heap.size (w.alloc (.cells #[x, y, z] t)) u) : u.cell? ⟨w.heap.size, 0, none⟩ = some x ∧ u.cell? ⟨w.heap.size, 1, none⟩ = some y ∧ u.cell? ⟨w.heap.size, 2, none⟩ = some z :=
 cells3 ((k.block _ (by simp)).trans (heap_alloc_new w _))
theorem concat3 (w : World) (A0 A1 : Option Addr) (l0 c0 l1 c1 : Nat) (xs ys : List Kv) (k v : ByteArray) (hx : KR w A0 l0 xs) (hy : KR w A1 l1 ys) (hn : l0 + l1 ≤ 800000) :
 Calls Tryz.prog 195 #[.slice (some ⟨w.heap.size + 1, 0, none⟩) 3 3] ((w.alloc (.cells #[.string k, .string v] 250)).alloc (.cells #[.slice A0 l0 c0, .slice (some ⟨w.heap.size, 0, none⟩) 1 1, .slice A1 l1 c1] 225))
  fun e w' => ∃ A' n' c', e = .returned (.slice A' n' c') ∧ OK 250 w' w.heap.size A' n' c' (xs ++ ⟨k, v⟩ :: ys) ∧ Below w.heap.size w w' := by
 have k1 := kp_new w (.cells #[.string k, .string v] 250); have hm : KR (w.alloc (.cells #[.string k, .string v] 250)) (some ⟨w.heap.size, 0, none⟩) 1 [⟨k, v⟩] := ⟨rfl, (Rd.new w 250 (kvC [⟨k, v⟩])).more (by simp)⟩
 have := concatk_new (w.alloc (.cells #[.string k, .string v] 250)) [⟨A0, l0, c0, xs⟩, ⟨some ⟨w.heap.size, 0, none⟩, 1, 1, [⟨k, v⟩]⟩, ⟨A1, l1, c1, ys⟩] 3 rfl (by decide) (fun p hp => by
  simp only [List.mem_cons, List.not_mem_nil, or_false] at hp; rcases hp with rfl | rfl | rfl
  · exact hx.next k1
  · exact hm
  · exact hy.next k1) (by
  have h1 := hx.len; have h2 := hy.len; simp only [flatK, List.flatMap_cons, List.flatMap_nil, List.length_append, List.length_cons, List.length_nil]
  omega)
 rw [show (w.alloc (.cells #[.string k, .string v] 250)).heap.size = w.heap.size + 1 from by simp] at this; refine this.mono fun e w' ⟨A', n', c', he, ho, hb⟩ => ⟨A', n', c', he, ?_, k1.trans (hb.mono (by omega))⟩; have e : flatK [⟨A0, l0, c0, xs⟩, ⟨some ⟨w.heap.size, 0, none⟩, 1, 1, [⟨k, v⟩]⟩, ⟨A1, l1, c1, ys⟩] = xs ++ ⟨k, v⟩ :: ys := by simp [flatK]
 rw [← e]; exact ho.base_ (by omega)
theorem concat2 (w : World) (A0 A1 : Option Addr) (l0 c0 l1 c1 : Nat) (xs ys : List Kv) (hx : KR w A0 l0 xs) (hy : KR w A1 l1 ys) (hn : l0 + l1 ≤ 800000) :
 Calls Tryz.prog 195 #[.slice (some ⟨w.heap.size, 0, none⟩) 2 2] (w.alloc (.cells #[.slice A0 l0 c0, .slice A1 l1 c1] 225))
  fun e w' => ∃ A' n' c', e = .returned (.slice A' n' c') ∧ OK 250 w' w.heap.size A' n' c' (xs ++ ys) ∧ Below w.heap.size w w' := by
 have := concatk_new w [⟨A0, l0, c0, xs⟩, ⟨A1, l1, c1, ys⟩] 2 rfl (by decide) (fun p hp => by
  simp only [List.mem_cons, List.not_mem_nil, or_false] at hp; rcases hp with rfl | rfl
  · exact hx
  · exact hy) (by
  have h1 := hx.len; have h2 := hy.len; simp only [flatK, List.flatMap_cons, List.flatMap_nil, List.length_append, List.length_nil]
  omega)
 have e : flatK [⟨A0, l0, c0, xs⟩, ⟨A1, l1, c1, ys⟩] = xs ++ ys := by simp [flatK]
 rw [e] at this; exact this
def WrTo (d : Int) (k v : ByteArray) (ts : List Kv) (w : World) (e : Ending) (w' : World) : Prop :=
 ∃ A' n' c', e = .returned (.tuple #[.slice A' n' c', .int .i64 (writesF d k v ts).2]) ∧ OK 250 w' w.heap.size A' n' c' (writesF d k v ts).1 ∧ Below w.heap.size w w'
set_option maxHeartbeats 4000000 in
theorem writes_ok (d : Int) (k v : ByteArray) (A : Option Addr) (n c : Nat) (ts : List Kv) (w : World) (h : KR w A n ts) (hc : n ≤ c) (hs : Srt ts) (hn : n ≤ 700000) :
 Calls Tryz.prog 178 #[.agg #[.int .i64 d, .string k, .string v], .slice A n c] w (WrTo d k v ts w) := by
 have kw := kp_new w (.cells #[.int .i64 d, .string k, .string v] 229); have HP := hid (place_ok A n c ts k _ (h.next kw) hs (by omega)); have hle := posF_le k ts; have hlt := fun h => (there_lt (k := k) (l := ts) h).1; have hW : writesF d k v ts = if d = 3 ∨ (d = 4 ∧ thereF k ts = true) then (ts.take (posF k ts) ++ ⟨k, v⟩ :: restF k ts, 1) else if d = 5 ∧ thereF k ts = true then (ts.take (posF k ts) ++ restF k ts, 1) else (ts, 0) := rfl; have hR : restF k ts = if thereF k ts then ts.drop (posF k ts + 1) else ts.drop (posF k ts) := rfl; rw [hR] at hW; clear hR; have hlen := h.len; unfold WrTo; generalize posF k ts = p at *; generalize thereF k ts = b at *; generalize writesF d k v ts = W at *; obtain ⟨A0, s0, r0⟩ := h.cut0 hc Tryz.prog 225 Tryz.underlying225 kvsize (j := p) (p : Int) rfl (by omega); obtain ⟨A1, s1, r1⟩ := h.cut1 hc Tryz.prog 225 Tryz.underlying225 kvsize (i := p) (p : Int) rfl (by omega); have HW := hid hW; have HK := hid h; have HR0 := hid r0; have HR1 := hid r1; have HLN := hid hlen; have hpn0 : p ≤ n := by omega
 clear hW hs h r0 r1 hlen hle
 cases b with
 | true =>
   have hpn : p < n := by have := hlt rfl; rw [HLN.out] at this; exact this
   obtain ⟨A2, s2, r2⟩ := HK.out.cut1 hc Tryz.prog 225 Tryz.underlying225 kvsize (i := p + 1) ((p : Int) + 1) (by omega) (by omega); have HR2 := hid r2; clear r2 hlt; by_cases h34 : d = 3 ∨ d = 4
   · have hW : W = (ts.take p ++ ⟨k, v⟩ :: ts.drop (p + 1), 1) := by
      rw [HW.out, if_pos (by rcases h34 with h | h <;> simp [h]), if_pos rfl]
     subst hW; clear HW; rcases h34 with rfl | rfl
     all_goals
      go_enter Tryz.func178, Tryz.ntmps178; go_wp2_with fail; refine HP.out.mono ?_; rintro e w1 ⟨rfl, k1⟩; obtain ⟨c0, c1, c2⟩ := box3 k1; have K1 := kp_trans kw k1; clear HP; go_wp2_with fail; go_quiet (fail); have kq : Below w1.heap.size w1 (w1.drewN nq) := kp_drewN w1 nq; have K2 := K1.trans (kq.mono K1.size); generalize w1.drewN nq = w2 at *
      replace c0 := (kq.cell (World.block_lt_of_cell? _ _ c0)).trans c0
      replace c1 := (kq.cell (World.block_lt_of_cell? _ _ c1)).trans c1
      replace c2 := (kq.cell (World.block_lt_of_cell? _ _ c2)).trans c2
      clear k1 kq; go_wp2_with fail; refine (concat3 w2 A0 A2 p c (n - (p + 1)) (c - (p + 1)) _ _ k v (HR0.out.next K2) (HR2.out.next K2) (by omega)).mono ?_; rintro e w3 ⟨A3, n3, c3, rfl, ho, k3⟩; go_wp2_with fail; go_ret2; exact ⟨A3, n3, c3, rfl, ho.base_ K2.size, kp_trans K2 k3⟩
   · have n3 : (d == 3) = false := by simp only [beq_eq_false_iff_ne, ne_eq]; omega
     have n4 : (d == 4) = false := by simp only [beq_eq_false_iff_ne, ne_eq]; omega
     by_cases h5 : d = 5
     · subst h5
       have hW : W = (ts.take p ++ ts.drop (p + 1), 1) := by
        rw [HW.out, if_neg (by omega), if_pos (by simp), if_pos rfl]
       subst hW; clear HW h34; go_enter Tryz.func178, Tryz.ntmps178; go_wp2_with fail; refine HP.out.mono ?_; rintro e w1 ⟨rfl, k1⟩; obtain ⟨c0, c1, c2⟩ := box3 k1; have K1 := kp_trans kw k1; clear HP; go_wp2_with fail; go_quiet (fail); have kq : Below w1.heap.size w1 (w1.drewN nq) := kp_drewN w1 nq; have K2 := K1.trans (kq.mono K1.size); generalize w1.drewN nq = w2 at *
       replace c0 := (kq.cell (World.block_lt_of_cell? _ _ c0)).trans c0
       replace c1 := (kq.cell (World.block_lt_of_cell? _ _ c1)).trans c1
       replace c2 := (kq.cell (World.block_lt_of_cell? _ _ c2)).trans c2
       clear k1 kq; go_wp2_with fail; refine (concat2 w2 A0 A2 p c (n - (p + 1)) (c - (p + 1)) _ _ (HR0.out.next K2) (HR2.out.next K2) (by omega)).mono ?_; rintro e w3 ⟨A3, n3, c3, rfl, ho, k3⟩; go_wp2_with fail; go_ret2; exact ⟨A3, n3, c3, rfl, ho.base_ K2.size, kp_trans K2 k3⟩
     · have n5 : (d == 5) = false := by simp only [beq_eq_false_iff_ne, ne_eq]; omega
       have hW : W = (ts, 0) := by
        rw [HW.out, if_neg (by omega), if_neg (by omega)]
       subst hW; clear HW h34 h5; go_enter Tryz.func178, Tryz.ntmps178; go_wp2_with fail; refine HP.out.mono ?_; rintro e w1 ⟨rfl, k1⟩; obtain ⟨c0, c1, c2⟩ := box3 k1; have K1 := kp_trans kw k1; clear HP; go_wp2_with fail; go_quiet (fail); have kq : Below w1.heap.size w1 (w1.drewN nq) := kp_drewN w1 nq; have K2 := K1.trans (kq.mono K1.size); generalize w1.drewN nq = w2 at *
       replace c0 := (kq.cell (World.block_lt_of_cell? _ _ c0)).trans c0
       replace c1 := (kq.cell (World.block_lt_of_cell? _ _ c1)).trans c1
       replace c2 := (kq.cell (World.block_lt_of_cell? _ _ c2)).trans c2
       clear k1 kq; go_wp2_with fail; refine (clonek_ok A n c ts w2 (HK.out.next K2) (by omega)).mono ?_; rintro e w3 ⟨A3, n3, c3, rfl, ho, k3⟩; go_wp2_with fail; go_ret2; exact ⟨A3, n3, c3, rfl, ho.base_ K2.size, kp_trans K2 k3⟩
 | false =>
   clear hlt; by_cases h3 : d = 3
   · subst h3
     have hW : W = (ts.take p ++ ⟨k, v⟩ :: ts.drop p, 1) := by
      rw [HW.out, if_pos (by simp), if_neg (by simp)]
     subst hW; clear HW; go_enter Tryz.func178, Tryz.ntmps178; go_wp2_with fail; refine HP.out.mono ?_; rintro e w1 ⟨rfl, k1⟩; obtain ⟨c0, c1, c2⟩ := box3 k1; have K1 := kp_trans kw k1; clear HP; go_wp2_with fail; go_quiet (fail); have kq : Below w1.heap.size w1 (w1.drewN nq) := kp_drewN w1 nq; have K2 := K1.trans (kq.mono K1.size); generalize w1.drewN nq = w2 at *
     replace c0 := (kq.cell (World.block_lt_of_cell? _ _ c0)).trans c0
     replace c1 := (kq.cell (World.block_lt_of_cell? _ _ c1)).trans c1
     replace c2 := (kq.cell (World.block_lt_of_cell? _ _ c2)).trans c2
     clear k1 kq; go_wp2_with fail; refine (concat3 w2 A0 A1 p c (n - p) (c - p) _ _ k v (HR0.out.next K2) (HR1.out.next K2) (by omega)).mono ?_; rintro e w3 ⟨A3, n3, c3, rfl, ho, k3⟩; go_wp2_with fail; go_ret2; exact ⟨A3, n3, c3, rfl, ho.base_ K2.size, kp_trans K2 k3⟩
   · have hW : W = (ts, 0) := by
      rw [HW.out, if_neg (by simp [h3]), if_neg (by simp)]
     subst hW; clear HW; have n3 : (d == 3) = false := by simpa using h3
     generalize h4 : (d == 4) = b4; generalize h5 : (d == 5) = b5; clear h3; cases b4
     all_goals
      cases b5
     all_goals
      go_enter Tryz.func178, Tryz.ntmps178; go_wp2_with fail; refine HP.out.mono ?_; rintro e w1 ⟨rfl, k1⟩; obtain ⟨c0, c1, c2⟩ := box3 k1; have K1 := kp_trans kw k1; clear HP; go_wp2_with fail; go_quiet (fail); have kq : Below w1.heap.size w1 (w1.drewN nq) := kp_drewN w1 nq; have K2 := K1.trans (kq.mono K1.size); generalize w1.drewN nq = w2 at *
      replace c0 := (kq.cell (World.block_lt_of_cell? _ _ c0)).trans c0
      replace c1 := (kq.cell (World.block_lt_of_cell? _ _ c1)).trans c1
      replace c2 := (kq.cell (World.block_lt_of_cell? _ _ c2)).trans c2
      clear k1 kq; go_wp2_with fail; refine (clonek_ok A n c ts w2 (HK.out.next K2) (by omega)).mono ?_; rintro e w3 ⟨A3, n3, c3, rfl, ho, k3⟩; go_wp2_with fail; go_ret2; exact ⟨A3, n3, c3, rfl, ho.base_ K2.size, kp_trans K2 k3⟩
end
end Go.Proofs.YtdhnpmagapbmhaaGreatDoor
