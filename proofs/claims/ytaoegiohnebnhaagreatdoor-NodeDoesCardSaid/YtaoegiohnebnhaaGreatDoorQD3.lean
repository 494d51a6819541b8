/-
  Contracts and plain functions that the law stands on, part 3 of 24.
-/
import Derived.Test.YtaoegiohnebnhaaGreatDoorQD2
import Derived.OrdersHeld
import Derived.Deep.RegionHeld
import Derived.BigQuiet
import Derived.Deep.RegionWith
import Derived.Shelf.Strings.Replace
namespace Go.Proofs.YtaoegiohnebnhaaGreatDoor
/- A region that draws its order, gone through once an operation, not once an order: each operation leaves a fact that no later call breaks. -/
section
open Go.RowKit

def dstOf (ops : Array Oper) (j : Nat) : Option Tmp := (ops[j]?).bind (·.dst)
/-- the slots of what an operation waits for -/
def waitsFor (ops : Array Oper) (o : Oper) : List Nat := (o.after.toList.filter (Region.binds .any)).filterMap fun e => dstOf ops e.on
def dstsOf (ops : Array Oper) : List Nat := ops.toList.filterMap (·.dst)

/-- what a region leaves of a frame -/
structure Stand (ops : Array Oper) (a0 a : Act) : Prop where
  size : a.tmps.size = a0.tmps.size
  defers : a.defers = a0.defers
  out : ∀ t, (dstsOf ops).contains t = false → a.tmps.getD t undef = a0.tmps.getD t undef

theorem gd {a : Act} {t : Nat} {v : Value} (h : a.tmps.getD t undef = v) : a.tmps[t]?.getD undef = v := by rw [← Array.getD_eq_getD_getElem?]; exact h

def Wants (ops : Array Oper) (a : Act) (o : Oper) : Prop :=
  match o.guard with
  | none => True
  | some (j, b) => ∃ t, dstOf ops j = some t ∧ a.tmps.getD t undef = .bool b

theorem wants {ops : Array Oper} {a : Act} {o : Oper} (h : Wants ops a o) : Region.wanted o (yielded ops a.tmps) = true := by
  unfold Wants at h
  unfold Region.wanted
  split at h
  · rename_i hg; rw [hg]
  · rename_i j b hg
    obtain ⟨t, ht, hv⟩ := h
    rw [hg]
    have hlt : t < a.tmps.size := by
      rcases Nat.lt_or_ge t a.tmps.size with h | h
      · exact h
      · rw [Array.getD_eq_getD_getElem?, Array.getElem?_eq_none h] at hv
        simp [undef] at hv
    rw [Array.getD_eq_getD_getElem?, Array.getElem?_eq_getElem hlt] at hv
    simp only [Option.getD_some] at hv
    unfold dstOf at ht
    simp [yielded, ht, Array.getElem?_eq_getElem hlt, hv]

/-- each operation of a list, with its number -/
def EachOp (C : Nat → Oper → Prop) : Nat → List Oper → Prop
  | _, [] => True
  | k, o :: r => C k o ∧ EachOp C (k + 1) r
theorem EachOp.cons {C : Nat → Oper → Prop} {k : Nat} {o : Oper} {r : List Oper} (h : C k o) (t : EachOp C (k + 1) r) : EachOp C k (o :: r) := ⟨h, t⟩
theorem EachOp.nil {C : Nat → Oper → Prop} {k : Nat} : EachOp C k [] := trivial
theorem EachOp.at_ {C : Nat → Oper → Prop} : ∀ {l : List Oper} {k : Nat}, EachOp C k l → ∀ (i : Nat) (o : Oper), l[i]? = some o → C (k + i) o
  | [], _, _, i, o, h => by simp at h
  | x :: r, k, hh, 0, o, h => by simp at h; subst h; exact hh.1
  | x :: r, k, hh, i + 1, o, h => by
    have := EachOp.at_ hh.2 i o (by simpa using h)
    rwa [show k + 1 + i = k + (i + 1) by omega] at this

theorem filter_lt {l : List Nat} {p q : Nat → Bool} (h : ∀ x, q x = true → p x = true) {i : Nat} (hi : i ∈ l) (hp : p i = true) (hq : q i = false) : (l.filter q).length < (l.filter p).length := by
  induction l with
  | nil => simp at hi
  | cons x r ih =>
    have hle : (r.filter q).length ≤ (r.filter p).length := by
      clear ih hi
      induction r with
      | nil => simp
      | cons y r ih =>
        rw [List.filter_cons, List.filter_cons]
        by_cases hy : q y = true
        · rw [if_pos hy, if_pos (h y hy)]; simp; exact ih
        · rw [if_neg hy]
          split
          · simp; omega
          · exact ih
    rcases List.mem_cons.1 hi with rfl | hi
    · rw [List.filter_cons, List.filter_cons, if_pos hp, if_neg (by simp [hq])]
      simp; omega
    · have := ih hi
      rw [List.filter_cons, List.filter_cons]
      by_cases hx : q x = true
      · rw [if_pos hx, if_pos (h x hx)]; simp; exact this
      · rw [if_neg hx]
        split
        · simp; omega
        · exact this

section
variable {P : Program} {ops : Array Oper} {Q : Exit → Act → World → Prop}

/-- the slots of what must come behind an operation -/
def laterOf (ops : Array Oper) (i : Nat) : List Nat := (ops.toList.filter fun o => o.after.any fun e => Region.binds .any e && e.on == i).filterMap (·.dst)
/-- what an operation meets: beside what the region leaves, what is written behind it alone is as it was -/
structure StandI (ops : Array Oper) (i : Nat) (a0 a : Act) : Prop extends Stand ops a0 a where
  old : ∀ t, (laterOf ops i).contains t = true → a.tmps.getD t undef = a0.tmps.getD t undef
end

/-- what slots hold -/
def AllV (a : Act) : List (Nat × Value) → Prop
  | [] => True
  | (t, v) :: r => a.tmps.getD t undef = v ∧ AllV a r
theorem setAll_eq {b : Array Value} : ∀ (vals : List (Nat × Value)) (ts : Array Value), ts.size = b.size → (∀ p ∈ vals, b.getD p.1 undef = p.2) → (∀ t, (∀ p ∈ vals, p.1 ≠ t) → ts.getD t undef = b.getD t undef) →
    vals.foldl (fun ts p => ts.setIfInBounds p.1 p.2) ts = b
  | [], ts, hs, _, h => by
    apply Array.ext hs
    intro i h1 h2
    have := h i (by simp)
    rw [Array.getD_eq_getD_getElem?, Array.getD_eq_getD_getElem?, Array.getElem?_eq_getElem h1, Array.getElem?_eq_getElem h2] at this
    simpa using this
  | p :: r, ts, hs, hv, h => by
    rw [List.foldl_cons]
    refine setAll_eq r (ts.setIfInBounds p.1 p.2) (by simpa using hs) (fun q hq => hv q (List.mem_cons_of_mem _ hq)) fun t ht => ?_
    by_cases hpt : p.1 = t
    · subst hpt
      rw [hv p (by simp)]
      by_cases hlt : p.1 < ts.size
      · simp [Array.getD_eq_getD_getElem?, hlt]
      · have h1 := hv p (by simp)
        have e : b.getD p.1 undef = undef := by simp [Array.getD_eq_getD_getElem?, show b.size ≤ p.1 by omega]
        rw [e] at h1
        simp [Array.getD_eq_getD_getElem?, hlt, ← h1]
    · rw [← h t (fun q hq => by
        rcases List.mem_cons.1 hq with rfl | hq
        · exact hpt
        · exact ht q hq)]
      simp [Array.getD_eq_getD_getElem?, Array.getElem?_setIfInBounds_ne hpt]
theorem AllV.mem {a : Act} : ∀ {vals : List (Nat × Value)}, AllV a vals → ∀ p ∈ vals, a.tmps.getD p.1 undef = p.2
  | [], _, p, hp => by simp at hp
  | (t, v) :: r, h, p, hp => by
    rcases List.mem_cons.1 hp with rfl | hp
    · exact h.1
    · exact AllV.mem h.2 p hp
/-- the frame behind a region, written out -/
theorem Stand.frame {ops : Array Oper} {a0 a : Act} (h : Stand ops a0 a) (vals : List (Nat × Value)) (hd : ((dstsOf ops).all fun t => (vals.map Prod.fst).contains t) = true) (hv : AllV a vals) :
    a = { tmps := vals.foldl (fun ts p => ts.setIfInBounds p.1 p.2) a0.tmps, defers := a0.defers } := by
  have e := setAll_eq (b := a.tmps) vals a0.tmps h.size.symm hv.mem fun t ht => by
    refine (h.out t ?_).symm
    rw [Bool.eq_false_iff]
    intro hc
    have h1 := List.all_eq_true.1 hd t (by simpa using hc)
    obtain ⟨p, hp, rfl⟩ := List.mem_map.1 (show t ∈ vals.map Prod.fst by simpa using h1)
    exact ht p hp rfl
  cases a
  simp only [Act.mk.injEq]
  exact ⟨e.symm, h.defers⟩
end

/- Which tokens may be, by package lex: numbers and hints, whose tests are in an order that Go leaves open. -/
section
open Go.RowKit
set_option maxRecDepth 100000
end

/- What is written of tokens, by package lex: contracts. -/
section
open Go.RowKit
set_option maxRecDepth 100000

/-- a text with each byte q twice -/
def twiceF (q : UInt8) : List UInt8 → List UInt8
  | [] => []
  | b :: r => if b = q then q :: q :: twiceF q r else b :: twiceF q r

theorem twiceF_length (q : UInt8) : ∀ l, (twiceF q l).length ≤ 2 * l.length
  | [] => by simp [twiceF]
  | b :: r => by
    have := twiceF_length q r
    unfold twiceF
    split <;> simp <;> omega
theorem twiceF_take (q : UInt8) : ∀ (l : List UInt8) (k : Nat), (∀ j (h : j < l.length), j < k → l[j] ≠ q) → k ≤ l.length → twiceF q l = l.take k ++ twiceF q (l.drop k)
  | l, 0, _, _ => by simp
  | [], k + 1, _, h => by simp at h
  | b :: r, k + 1, h, hk => by
    have h0 : b ≠ q := h 0 (by simp) (by omega)
    have := twiceF_take q r k (fun j hj hjk => h (j + 1) (by simpa using hj) (by omega)) (by simpa using hk)
    rw [twiceF, if_neg h0, this]
    simp

theorem index_one (l : List UInt8) (q : UInt8) : (Lib.index l [q] = -1 ∧ (∀ b ∈ l, b ≠ q)) ∨ ∃ i : Nat, ∃ h : i < l.length, Lib.index l [q] = i ∧ l[i] = q ∧ ∀ j (hj : j < l.length), j < i → l[j] ≠ q := by
  induction l with
  | nil => exact .inl ⟨rfl, fun b h => by simp at h⟩
  | cons b r ih =>
    by_cases hb : b = q
    · subst hb
      refine .inr ⟨0, by simp, ?_, rfl, fun j _ hj => by omega⟩
      unfold Lib.index
      rw [if_pos (by simp)]
      rfl
    · have hp : [q].isPrefixOf (b :: r) = false := by
        rw [List.isPrefixOf]
        simp
        exact fun h => hb h.symm
      rcases ih with ⟨h1, h2⟩ | ⟨i, hi, h1, h2, h3⟩
      · refine .inl ⟨?_, fun c hc => ?_⟩
        · unfold Lib.index
          rw [hp, h1]
          rfl
        · rcases List.mem_cons.1 hc with rfl | hc
          · exact hb
          · exact h2 c hc
      · refine .inr ⟨i + 1, by simpa using hi, ?_, by simpa using h2, fun j hj hji => ?_⟩
        · unfold Lib.index
          rw [hp, h1]
          have : ((i : Int) == -1) = false := by rw [beq_eq_false_iff_ne]; omega
          simp [this]
        · cases j with
          | zero => exact hb
          | succ j => exact h3 j (by simpa using hj) (by omega)

theorem replaceK_none (q : UInt8) (k : Nat) (l : List UInt8) (h : Lib.index l [q] = -1) : Lib.replaceK [q] [q, q] k l = l := by
  cases k with
  | zero => rfl
  | succ k => rw [Lib.replaceK, if_pos (beq_iff_eq.2 h)]
theorem replaceK_twice (q : UInt8) : ∀ (n : Nat) (l : List UInt8) (k : Nat), l.length ≤ n → Lib.count l [q] ≤ k → Lib.replaceK [q] [q, q] k l = twiceF q l := by
  intro n
  induction n with
  | zero =>
    intro l k hl _
    obtain rfl : l = [] := List.eq_nil_of_length_eq_zero (by omega)
    rw [replaceK_none q k [] rfl]
    rfl
  | succ n ih =>
    intro l k hl hc
    rcases index_one l q with ⟨h1, h2⟩ | ⟨i, hi, h1, h2, h3⟩
    · rw [replaceK_none q k l h1, twiceF_take q l l.length (fun j hj _ => h2 _ (List.getElem_mem hj)) (Nat.le_refl _)]
      simp [twiceF]
    · rw [Lib.count_hit (by simp) h1] at hc
      obtain ⟨k', rfl⟩ : ∃ k', k = k' + 1 := ⟨k - 1, by omega⟩
      rw [Lib.replaceK_hit _ _ _ _ _ h1, ih (l.drop (i + [q].length)) k' (by rw [List.length_drop]; simp; omega) (by omega)]
      rw [twiceF_take q l i h3 (by omega), List.drop_eq_getElem_cons hi, h2]
      simp [twiceF]
theorem replaceAll_twice (q : UInt8) (l : List UInt8) : Lib.replaceAll l [q] [q, q] = twiceF q l := by
  unfold Lib.replaceAll Lib.replace
  rw [if_neg (by simp)]
  unfold Lib.replaceNum
  rw [if_pos (.inl (by decide))]
  exact replaceK_twice q l.length l _ (Nat.le_refl _) (Nat.le_refl _)

theorem twice_s (q : UInt8) (s old new : ByteArray) (w : World) (hL : Lw w) (hs : s.size ≤ 1000000) (ho : old.data.toList = [q]) (hn : new.data.toList = [q, q]) :
    Calls Tryz.prog 177 #[.string s, .string old, .string new] w fun e w' => ∃ r : ByteArray, e = .returned (.string r) ∧ r.data.toList = twiceF q s.data.toList ∧ Below w.heap.size w w' := by
  obtain ⟨m, hm⟩ := hL
  have o1 : old.size = 1 := by rw [← text_len, ho]; rfl
  have n2 : new.size = 2 := by rw [← text_len, hn]; rfl
  have hc := Lib.countB_mul_le old (by omega) s.size s (Nat.le_refl _)
  rw [o1, Nat.mul_one] at hc
  refine (Tryz.strings_ReplaceAll s old new m w (by omega) hm (by omega) (by rw [n2]; omega)).mono fun e w' ⟨he, hb⟩ => ⟨_, he, ?_, hb⟩
  rw [ho, hn, replaceAll_twice]

theorem text_add (a b : ByteArray) : (a ++ b).data.toList = a.data.toList ++ b.data.toList := by simp

def quoteF (q : UInt8) (l : List UInt8) : List UInt8 := q :: twiceF q l ++ [q]

set_option maxHeartbeats 400000 in
theorem quote_ok (q : UInt8) (s mark : ByteArray) (hq : mark.data.toList = [q]) (w : World) (hL : Lw w) (hs : s.size ≤ 1000000) :
    Calls Tryz.prog 166 #[.string s, .string mark] w fun e w' => ∃ r : ByteArray, e = .returned (.string r) ∧ r.data.toList = quoteF q s.data.toList ∧ Below w.heap.size w w' := by
  have hms : mark.size = 1 := by rw [← text_len, hq]; rfl
  go_enter Tryz.func166, Tryz.ntmps166
  go_wp2_with fail
  refine (twice_s q s mark (mark ++ mark) w hL hs hq (by rw [text_add, hq]; rfl)).mono ?_
  rintro e w1 ⟨r, rfl, hr, k1⟩
  have hrs : r.size ≤ 2000000 := by
    have h1 := twiceF_length q s.data.toList
    have h2 := text_len s
    have h3 := text_len r
    rw [hr] at h3
    omega
  have hms2 : (mark ++ r).size ≤ 2000001 := by rw [ByteArray.size_append]; omega
  go_wp2_with fail
  go_ret
  exact ⟨_, rfl, by rw [text_add, text_add, hr, hq]; rfl, k1⟩

def writtenF (k : Int) (l : List UInt8) : List UInt8 :=
  if k = 1 ∨ k = 4 ∨ k = 6 then l
  else if k = 2 then quoteF 34 l
  else if k = 3 then quoteF 39 l
  else if k = 5 then [47, 42, 43, 32] ++ l ++ [32] ++ [42, 47]
  else []
theorem writtenF_length (k : Int) (l : List UInt8) : (writtenF k l).length ≤ 2 * l.length + 7 := by
  have h1 := twiceF_length 34 l
  have h2 := twiceF_length 39 l
  unfold writtenF quoteF
  split
  · omega
  split
  · simp; omega
  split
  · simp; omega
  split
  · simp; omega
  · simp

set_option maxHeartbeats 1000000 in
theorem written_ok (k : Int) (s : ByteArray) (w : World) (hL : Lw w) (hs : s.size ≤ 1000000) :
    Calls Tryz.prog 148 #[.agg #[.int .i64 k, .string s]] w fun e w' => ∃ r : ByteArray, e = .returned (.string r) ∧ r.data.toList = writtenF k s.data.toList ∧ Below w.heap.size w w' := by
  have kw := kp_new w (.cells #[.int .i64 k, .string s] 135)
  have hL1 := hL.next kw
  by_cases h1 : k = 1 ∨ k = 4 ∨ k = 6
  · have hF : writtenF k s.data.toList = s.data.toList := by unfold writtenF; rw [if_pos h1]
    have HF := Lib.hid hF
    clear hF
    rcases h1 with rfl | rfl | rfl
    all_goals
      go_enter Tryz.func148, Tryz.ntmps148
      go_wp2_with fail
      go_ret
      exact ⟨s, rfl, HF.out.symm, kw⟩
  by_cases h2 : k = 2
  · subst h2
    have hQ := Lib.hid (quote_ok 34 s ⟨#[34]⟩ rfl _ hL1 hs)
    go_enter Tryz.func148, Tryz.ntmps148
    go_wp2_with fail
    refine hQ.out.mono ?_
    rintro e w1 ⟨r, rfl, hr, k1⟩
    go_wp2_with fail
    go_ret
    exact ⟨r, rfl, hr, kp_trans kw k1⟩
  by_cases h3 : k = 3
  · subst h3
    have hQ := Lib.hid (quote_ok 39 s ⟨#[39]⟩ rfl _ hL1 hs)
    go_enter Tryz.func148, Tryz.ntmps148
    go_wp2_with fail
    refine hQ.out.mono ?_
    rintro e w1 ⟨r, rfl, hr, k1⟩
    go_wp2_with fail
    go_ret
    exact ⟨r, rfl, hr, kp_trans kw k1⟩
  by_cases h5 : k = 5
  · subst h5
    have z1 : (⟨#[47, 42, 43, 32]⟩ ++ s : ByteArray).size ≤ 1000004 := by rw [ByteArray.size_append]; have : (⟨#[47, 42, 43, 32]⟩ : ByteArray).size = 4 := rfl; omega
    have z2 : (⟨#[47, 42, 43, 32]⟩ ++ s ++ ⟨#[32]⟩ : ByteArray).size ≤ 1000005 := by rw [ByteArray.size_append]; have : (⟨#[32]⟩ : ByteArray).size = 1 := rfl; omega
    have z3 : (⟨#[47, 42, 43, 32]⟩ : ByteArray).size = 4 := rfl
    have z4 : (⟨#[32]⟩ : ByteArray).size = 1 := rfl
    have z5 : (⟨#[42, 47]⟩ : ByteArray).size = 2 := rfl
    go_enter Tryz.func148, Tryz.ntmps148
    go_wp2_with fail
    go_ret
    exact ⟨_, rfl, by rw [text_add, text_add, text_add]; rfl, kw⟩
  · have hF : writtenF k s.data.toList = [] := by unfold writtenF; rw [if_neg h1, if_neg h2, if_neg h3, if_neg h5]
    have HF := Lib.hid hF
    have e1 : (k == 1) = false := by simp only [beq_eq_false_iff_ne, ne_eq]; omega
    have e2 : (k == 2) = false := by simp only [beq_eq_false_iff_ne, ne_eq]; omega
    have e3 : (k == 3) = false := by simp only [beq_eq_false_iff_ne, ne_eq]; omega
    have e4 : (k == 4) = false := by simp only [beq_eq_false_iff_ne, ne_eq]; omega
    have e5 : (k == 5) = false := by simp only [beq_eq_false_iff_ne, ne_eq]; omega
    have e6 : (k == 6) = false := by simp only [beq_eq_false_iff_ne, ne_eq]; omega
    clear hF h1 h2 h3 h5
    go_enter Tryz.func148, Tryz.ntmps148
    go_wp2_with fail
    go_ret
    exact ⟨⟨#[]⟩, rfl, HF.out.symm, kw⟩
end

/- The document's layer 4: what stands between quotes, words, texts with quotes twice: contracts. -/
section
open Go.RowKit
set_option maxRecDepth 100000

theorem byteinfo : (Tryz.prog.info? 5).map (fun i => (i.zero, i.size, i.bytes)) = some (some (.int .u8 0), 1, 1) := by kernel_rfl
theorem Ow.push {w : World} {base : Nat} {v : Value} {n : Nat} {bs : List UInt8} {b : UInt8} (h : w.ownsRow base 5 1 v (n + 1) (bvs bs ++ [.int .u8 (b.toNat : Int)])) : ∃ A c, v = .slice A (n + 1) c ∧ Ow w base A (n + 1) c (bs ++ [b]) := by
  rw [show [Value.int .u8 (b.toNat : Int)] = bvs [b] from rfl, ← bvs_append] at h
  exact Ow.mk' h
theorem Ow.empty (w : World) : Ow (w.alloc (.cells #[] 5)) w.heap.size (some ⟨w.heap.size, 0, none⟩) 0 0 [] := by
  have := Ow.new w w.heap.size (Nat.le_refl _) [] (by simp)
  exact this
theorem Ow.text {w : World} {base : Nat} {A : Option Addr} {l c : Nat} {bs : List UInt8} (h : Ow w base A l c bs) : (convert 185 9 (.slice A l c)).run Tryz.prog w = .ok (.string ⟨bs.toArray⟩) w :=
  run_text (P := Tryz.prog) h.sl 185 9 5 Tryz.underlying185 Tryz.underlying5 Tryz.underlying9

set_option maxHeartbeats 1000000 in
theorem word_ok (s : ByteArray) (w : World) (hs : s.size ≤ 140737488351232) : Calls Tryz.prog 128 #[.string s] w fun e w' => ∃ r : ByteArray, e = .returned (.string r) ∧ r.data.toList = greatF s.data.toList ∧ Below w.heap.size w w' := by
  obtain ⟨i0, hi, hz0, hz1, hz2⟩ := info_parts byteinfo
  have hlen := Lib.hid (text_len s)
  go_enter Tryz.func128, Tryz.ntmps128
  go_wp2
  go_loopw [3, 4] (fun o v wr => ∃ (k : Nat) (A : Option Addr) (c : Nat), v = .int .i64 k ∧ k ≤ s.size ∧ o = .slice A k c ∧ Ow wr w.heap.size A k c ((s.data.toList.take k).map upF) ∧ Below w.heap.size w wr) (fun _ v _ => s.size - (intOf v).toNat)
  case atStart => exact ⟨0, _, _, rfl, Nat.zero_le _, rfl, Ow.empty w, kp_new _ _⟩
  case round =>
    obtain ⟨k, A, c, rfl, hk, rfl, ho, kw⟩ := hrel
    by_cases hlt : k < s.size
    · have hkl : k < s.data.toList.length := by rw [hlen.out]; exact hlt
      have hb := text_at s k hlt
      have hnext := Lib.hid (drop_take_map upF s.data.toList k hkl)
      generalize s.data.toList[k] = b at hb hnext
      have hsw := kw.size
      by_cases hlow : 97 ≤ b.toNat ∧ b.toNat ≤ 122
      · obtain ⟨h1, h2⟩ := hlow
        have hu : (b.toNat : Int) - 32 = ((upF b).toNat : Int) := by rw [up_byte b h1 h2]; omega
        have HU := Lib.hid hu
        clear hu
        go_wp2_with (at_builtin; refine wpList_append_rd rfl _ _ _ rfl w.heap.size 5 i0 _ 1 Tryz.underlying185 hi hz0 hz1 hz2 rfl _ k _ rfl (ho.own.alloc _) (wr.heap.size + 1) _ _ _ [_] rfl rfl (Rd.new _ _ _) (by simp [Value.oneCell']) (by unfold maxLen; omega) (by omega) (by simp; omega) ?_; intro v2 w2 hown2 hg2; rw [HU.out] at hown2; obtain ⟨A2, c2, rfl, ho2⟩ := Ow.push hown2)
        go_roundw
        case rel => exact ⟨k + 1, A2, c2, by go_num, by omega, rfl, by rw [hnext.out]; exact ho2, (kp_alloc kw _).trans (below_own (ho.own.alloc _) hg2 (by simp; omega))⟩
        case measure => simp [intOf]; omega
      · have hsame := up_same b hlow
        have HS := Lib.hid hsame
        have hlow2 : (¬ 97 ≤ b.toNat) ∨ (97 ≤ b.toNat ∧ ¬ b.toNat ≤ 122) := by omega
        clear hsame hlow
        rcases hlow2 with h1 | ⟨h1, h2⟩
        all_goals
          go_wp2_with (at_builtin; refine wpList_append_rd rfl _ _ _ rfl w.heap.size 5 i0 _ 1 Tryz.underlying185 hi hz0 hz1 hz2 rfl _ k _ rfl (ho.own.alloc _) (wr.heap.size + 1) _ _ _ [_] rfl rfl (Rd.new _ _ _) (by simp [Value.oneCell']) (by unfold maxLen; omega) (by omega) (by simp; omega) ?_; intro v2 w2 hown2 hg2; obtain ⟨A2, c2, rfl, ho2⟩ := Ow.push hown2)
          go_roundw
          case rel => exact ⟨k + 1, A2, c2, by go_num, by omega, rfl, by rw [hnext.out, HS.out]; exact ho2, (kp_alloc kw _).trans (below_own (ho.own.alloc _) hg2 (by simp; omega))⟩
          case measure => simp [intOf]; omega
    · obtain rfl : k = s.size := by omega
      rw [List.take_of_length_le (by rw [hlen.out]; exact Nat.le_refl _)] at ho
      have hT := ho.text
      go_wp2_with fail
      go_ret
      exact ⟨_, rfl, by simp [greatF], kw⟩
end

/- The document's layer 4: what stands between quotes; remarks and blanks: contracts. -/
section
open Go.RowKit
set_option maxRecDepth 100000

/-- what stands between quotes, as a call answers it -/
def AnsB (x : Option (List UInt8 × Nat)) (i : Nat) (r : ByteArray) (n : Int) : Prop :=
  match x with
  | none => n = -1
  | some (t, m) => r.data.toList = t ∧ n = (i + 1 + m : Nat)

set_option maxHeartbeats 2000000 in
theorem between_ok (s : ByteArray) (i : Nat) (c : UInt8) (rest : List UInt8) (w : World) (hs : s.size ≤ 140737488351232) (hl : s.data.toList.drop i = c :: rest) :
    Calls Tryz.prog 129 #[.string s, .int .i64 (i : Int)] w fun e w' => ∃ r n, e = .returned (.tuple #[.string r, .int .i64 n]) ∧ AnsB (quotedF c rest) i r n ∧ Below w.heap.size w w' := by
  obtain ⟨i0, hi, hz0, hz1, hz2⟩ := info_parts byteinfo
  have hlen := Lib.hid (text_len s)
  have hil : i < s.size := by
    rcases Nat.lt_or_ge i s.size with h | h
    · exact h
    · rw [List.drop_eq_nil_of_le (by rw [text_len]; exact h)] at hl; cases hl
  have hc0 : s[i] = c := by
    rw [text_at s i hil]
    have e0 : (s.data.toList.drop i)[0]? = some c := by rw [hl]; rfl
    rw [List.getElem?_drop] at e0
    exact (List.getElem?_eq_some_iff.1 e0).2
  have hx : rest = s.data.toList.drop (i + 1) := by
    rw [← List.drop_drop, hl]; rfl
  subst hx
  generalize hR0 : quotedF c (s.data.toList.drop (i + 1)) = R
  have HR := Lib.hid hR0
  clear hR0 hl
  go_enter Tryz.func129, Tryz.ntmps129
  go_wp2
  go_loopw [1, 7] (fun v o wr => ∃ (k n : Nat) (A : Option Addr) (cp : Nat) (done : List UInt8), v = .int .i64 k ∧ i + 1 ≤ k ∧ k ≤ s.size ∧ n ≤ k ∧ o = .slice A n cp ∧ Ow wr w.heap.size A n cp done ∧ Hid (R = (quotedF c (s.data.toList.drop k)).map fun x => (done ++ x.1, x.2 + k - (i + 1))) ∧ Below w.heap.size w wr) (fun v _ _ => s.size - (intOf v).toNat)
  case atStart => exact ⟨i + 1, 0, _, _, [], by go_num, Nat.le_refl _, by omega, by omega, rfl, Ow.empty w, Lib.hid (by rw [HR.out]; cases R <;> simp), kp_new _ _⟩
  case round =>
    obtain ⟨k, n, A, cp, done, rfl, hk1, hks, hn, rfl, ho, hx, kw⟩ := hrel
    clear HR
    have hsw := kw.size
    by_cases hlt : k < s.size
    · have hkl : k < s.data.toList.length := by rw [hlen.out]; exact hlt
      have hb := text_at s k hlt
      have hd : s.data.toList.drop k = s.data.toList[k] :: s.data.toList.drop (k + 1) := List.drop_eq_getElem_cons hkl
      rw [hd] at hx
      generalize s.data.toList[k] = b at hb hd hx
      clear hd
      by_cases hbc : b = c
      · subst hbc
        by_cases h1 : k + 1 < s.size
        · have hb1 := text_at s (k + 1) h1
          have hd1 : s.data.toList.drop (k + 1) = s.data.toList[k + 1]'(by rw [hlen.out]; exact h1) :: s.data.toList.drop (k + 1 + 1) := List.drop_eq_getElem_cons _
          rw [hd1] at hx
          generalize s.data.toList[k + 1]'(by rw [hlen.out]; exact h1) = d at hb1 hd1 hx
          clear hd1
          by_cases hdb : d = b
          · subst hdb
            rw [quotedF_twice] at hx
            have hx2 : Hid (R = (quotedF d (s.data.toList.drop (k + 2))).map fun x => (done ++ [d] ++ x.1, x.2 + (k + 2) - (i + 1))) := Lib.hid (by
              rw [hx.out]
              cases quotedF d (s.data.toList.drop (k + 2)) <;> simp
              try omega)
            clear hx
            go_wp2_with (first
              | (at_builtin; refine wpList_append_rd rfl _ _ _ rfl w.heap.size 5 i0 _ 1 Tryz.underlying185 hi hz0 hz1 hz2 rfl _ n _ rfl (ho.own.alloc _) (wr.heap.size + 1) _ _ _ [_] rfl rfl (Rd.new _ _ _) (by simp [Value.oneCell']) (by unfold maxLen; omega) (by omega) (by simp; omega) ?_; intro v2 w2 hown2 hg2; obtain ⟨A2, c2, rfl, ho2⟩ := Ow.push hown2; have kw2 := (kp_alloc kw (.cells #[.int .u8 _] 5)).trans (below_own (ho.own.alloc _) hg2 (by simp; omega)); have hsw2 := kw2.size))
            go_roundw
            case rel => exact ⟨k + 2, n + 1, A2, c2, done ++ [d], by go_num, by omega, by omega, by omega, rfl, ho2, hx2, kw2⟩
            case measure => simp [intOf]; omega
          · have hR : R = some (done, k - i) := by rw [hx.out, quotedF_ends (by simpa using hdb)]; simp; omega
            subst hR
            have hdb2 := byte_eq_no hdb
            have hT := ho.text
            clear hx
            go_wp2_with fail
            go_ret2
            exact ⟨_, _, rfl, ⟨by simp, by omega⟩, kw⟩
        · have hR : R = some (done, k - i) := by rw [hx.out, List.drop_eq_nil_of_le (by rw [hlen.out]; omega), quotedF_ends (by simp)]; simp; omega
          subst hR
          have hT := ho.text
          clear hx
          go_wp2_with fail
          go_ret2
          exact ⟨_, _, rfl, ⟨by simp, by omega⟩, kw⟩
      · rw [quotedF_other hbc] at hx
        have hx2 : Hid (R = (quotedF c (s.data.toList.drop (k + 1))).map fun x => (done ++ [b] ++ x.1, x.2 + (k + 1) - (i + 1))) := Lib.hid (by
          rw [hx.out]
          cases quotedF c (s.data.toList.drop (k + 1)) <;> simp
          try omega)
        have hbc2 := byte_eq_no hbc
        clear hx
        go_wp2_with (first
          | (at_builtin; refine wpList_append_rd rfl _ _ _ rfl w.heap.size 5 i0 _ 1 Tryz.underlying185 hi hz0 hz1 hz2 rfl _ n _ rfl (ho.own.alloc _) (wr.heap.size + 1) _ _ _ [_] rfl rfl (Rd.new _ _ _) (by simp [Value.oneCell']) (by unfold maxLen; omega) (by omega) (by simp; omega) ?_; intro v2 w2 hown2 hg2; obtain ⟨A2, c2, rfl, ho2⟩ := Ow.push hown2; have kw2 := (kp_alloc kw (.cells #[.int .u8 _] 5)).trans (below_own (ho.own.alloc _) hg2 (by simp; omega)); have hsw2 := kw2.size))
        go_roundw
        case rel => exact ⟨k + 1, n + 1, A2, c2, done ++ [b], by go_num, by omega, by omega, by omega, rfl, ho2, hx2, kw2⟩
        case measure => simp [intOf]; omega
    · have hR : R = none := by rw [hx.out, List.drop_eq_nil_of_le (by rw [hlen.out]; omega)]; rfl
      subst hR
      clear hx
      go_wp2_with fail
      go_ret2
      exact ⟨⟨#[]⟩, -1, rfl, rfl, kw⟩

/-- a remark, or a blank: how many bytes; below 0: it doesn't end -/
def skipF : List UInt8 → Int
  | [] => 0
  | c :: r =>
    if blankF c then 1
    else if isRemarkF (c :: r) then (if closedF (c :: r) 2 = 0 then -1 else closedF (c :: r) 2)
    else if isLineF (c :: r) then lineF (c :: r)
    else 0
def skipA (l : List UInt8) (i : Nat) : Int := if skipF (l.drop i) < 0 then -1 else (i : Int) + skipF (l.drop i)

theorem index_byte (l : List UInt8) (q : UInt8) : Lib.index l [q] = Lib.indexByte l q := by
  induction l with
  | nil => rfl
  | cons b r ih =>
    unfold Lib.index Lib.indexByte
    rw [ih]
    by_cases h : b = q
    · subst h; simp
    · have h1 : ([q].isPrefixOf (b :: r)) = false := by
        rw [List.isPrefixOf]
        simp
        exact fun e => h e.symm
      have h2 : (b == q) = false := by simpa using h
      rw [h1, h2]

theorem beg_hash (c : UInt8) (r : List UInt8) : begF [35] (c :: r) = decide (c.toNat = 35) := by
  unfold begF Lib.hasPrefix
  rw [List.isPrefixOf, Bool.eq_iff_iff]
  simp
  constructor
  · rintro rfl; rfl
  · intro h
    exact UInt8.toNat_inj.1 (by rw [h]; rfl)

set_option maxHeartbeats 2000000 in
theorem skip_ok (s : ByteArray) (i : Nat) (c : UInt8) (r : List UInt8) (w : World) (hs : s.size ≤ 140737488351232) (hl : s.data.toList.drop i = c :: r) :
    Calls Tryz.prog 84 #[.string s, .int .i64 (i : Int)] w fun e w' => e = .returned (.int .i64 (skipA s.data.toList i)) ∧ Below w.heap.size w w' := by
  have hil : i < s.size := by
    rcases Nat.lt_or_ge i s.size with h | h
    · exact h
    · rw [List.drop_eq_nil_of_le (by rw [text_len]; exact h)] at hl; cases hl
  have hc0 : s[i] = c := by
    rw [text_at s i hil]
    have e0 : (s.data.toList.drop i)[0]? = some c := by rw [hl]; rfl
    rw [List.getElem?_drop] at e0
    exact (List.getElem?_eq_some_iff.1 e0).2
  have hrl : r.length + 1 = s.size - i := by
    have := congrArg List.length hl
    rw [List.length_drop, text_len] at this
    simpa using this.symm
  have hA : skipA s.data.toList i = if skipF (c :: r) < 0 then -1 else (i : Int) + skipF (c :: r) := by unfold skipA; rw [hl]
  have HL := Lib.hid hl
  have H1 := fun u => rblank_ok c u
  by_cases h1 : blankF c = true
  · have hF : skipA s.data.toList i = (i : Int) + 1 := by rw [hA, skipF, if_pos h1]; rfl
    rw [h1] at H1
    have H1' := Lib.hid H1
    have HF := Lib.hid hF
    clear H1 hF hA hl h1
    go_enter Tryz.func84, Tryz.ntmps84
    go_wp2_with fail
    refine (H1'.out _).mono ?_
    rintro e w1 ⟨rfl, rfl⟩
    go_wp2_with fail
    go_ret
    exact ⟨by rw [HF.out]; rfl, Below.refl _ _⟩
  have h1f : blankF c = false := by simpa using h1
  rw [h1f] at H1
  have H1' := Lib.hid H1
  clear H1
  have hP1 := fun u => rat_ok s ⟨#[47, 42]⟩ i u (by omega) hs (by decide) (by decide)
  have hP2 := fun u => rat_ok s ⟨#[47, 42, 43]⟩ i u (by omega) hs (by decide) (by decide)
  have hP3 := fun u => rat_ok s ⟨#[45, 45]⟩ i u (by omega) hs (by decide) (by decide)
  have hP4 := fun u => rat_ok s ⟨#[35]⟩ i u (by omega) hs (by decide) (by decide)
  rw [show (⟨#[47, 42]⟩ : ByteArray).data.toList = [47, 42] from rfl, hl] at hP1
  rw [show (⟨#[47, 42, 43]⟩ : ByteArray).data.toList = [47, 42, 43] from rfl, hl] at hP2
  rw [show (⟨#[45, 45]⟩ : ByteArray).data.toList = [45, 45] from rfl, hl] at hP3
  rw [show (⟨#[35]⟩ : ByteArray).data.toList = [35] from rfl, hl, beg_hash] at hP4
  by_cases h2 : isRemarkF (c :: r) = true
  · have h2a : begF [47, 42] (c :: r) = true ∧ begF [47, 42, 43] (c :: r) = false := by
      unfold isRemarkF at h2
      simpa using h2
    have h2l : 2 ≤ s.size - i := by
      have := (List.isPrefixOf_iff_prefix.1 h2a.1).length_le
      simp at this
      omega
    have hfi := rfind_ok s ⟨#[42, 47]⟩ (i + 2) w (by omega) hs (by decide) (by decide)
    rw [show (⟨#[42, 47]⟩ : ByteArray).data.toList = ends2 from rfl] at hfi
    rw [h2a.1] at hP1
    rw [h2a.2] at hP2
    have hge := Lib.index_ge (s.data.toList.drop (i + 2)) ends2
    have hroom : 0 ≤ Lib.index (s.data.toList.drop (i + 2)) ends2 → (Lib.index (s.data.toList.drop (i + 2)) ends2).toNat + 2 ≤ s.size - (i + 2) := fun h => by
      have := index_room h (by decide)
      rw [List.length_drop, text_len] at this
      exact this
    have hcl : closedF (c :: r) 2 = if Lib.index (s.data.toList.drop (i + 2)) ends2 < 0 then 0 else 2 + (Lib.index (s.data.toList.drop (i + 2)) ends2).toNat + 2 := by
      unfold closedF
      rw [← hl, List.drop_drop]
    have hff : findF s.data.toList ends2 (i + 2) = if Lib.index (s.data.toList.drop (i + 2)) ends2 < 0 then -1 else ((i + 2 : Nat) : Int) + Lib.index (s.data.toList.drop (i + 2)) ends2 := rfl
    have hsk : skipF (c :: r) = if closedF (c :: r) 2 = 0 then -1 else (closedF (c :: r) 2 : Int) := by rw [skipF, if_neg h1, if_pos h2]
    rw [hsk, hcl] at hA
    rw [hff] at hfi
    generalize Lib.index (s.data.toList.drop (i + 2)) ends2 = x at hge hroom hA hfi
    by_cases hx : x < 0
    · rw [if_pos hx] at hA hfi
      have HA := Lib.hid hA
      have HP1 := Lib.hid hP1
      have HP2 := Lib.hid hP2
      have HFi := Lib.hid hfi
      clear hA hP1 hP2 hP3 hP4 hfi hsk hcl hff h2 h2a h1 h1f hl
      go_enter Tryz.func84, Tryz.ntmps84
      go_wp2_with fail
      refine (H1'.out _).mono ?_
      rintro e w1 ⟨rfl, rfl⟩
      go_wp2_with fail
      refine (HP1.out _).mono ?_
      rintro e w1 ⟨rfl, rfl⟩
      go_wp2_with fail
      refine (HP2.out _).mono ?_
      rintro e w1 ⟨rfl, rfl⟩
      go_wp2_with fail
      refine HFi.out.mono ?_
      rintro e w1 ⟨rfl, rfl⟩
      go_wp2_with fail
      go_ret
      exact ⟨by rw [HA.out]; rfl, Below.refl _ _⟩
    · rw [if_neg hx] at hA hfi
      obtain ⟨m, rfl⟩ : ∃ m : Nat, x = m := ⟨x.toNat, by omega⟩
      have hr := hroom (by omega)
      rw [Int.toNat_natCast] at hr hA
      have hA2 : skipA s.data.toList i = ((i + 2 + m + 2 : Nat) : Int) := by
        rw [hA, if_neg (by omega), if_neg (by omega)]
        omega
      have HA := Lib.hid hA2
      have HP1 := Lib.hid hP1
      have HP2 := Lib.hid hP2
      have HFi := Lib.hid hfi
      clear hA hA2 hP1 hP2 hP3 hP4 hfi hsk hcl hff h2 h2a h1 h1f hl
      go_enter Tryz.func84, Tryz.ntmps84
      go_wp2_with fail
      refine (H1'.out _).mono ?_
      rintro e w1 ⟨rfl, rfl⟩
      go_wp2_with fail
      refine (HP1.out _).mono ?_
      rintro e w1 ⟨rfl, rfl⟩
      go_wp2_with fail
      refine (HP2.out _).mono ?_
      rintro e w1 ⟨rfl, rfl⟩
      go_wp2_with fail
      refine HFi.out.mono ?_
      rintro e w1 ⟨rfl, rfl⟩
      go_wp2_with fail
      go_ret
      exact ⟨by rw [HA.out]; simp, Below.refl _ _⟩
  have h2f : isRemarkF (c :: r) = false := by simpa using h2
  have hA3 : skipA s.data.toList i = if isLineF (c :: r) then (i : Int) + lineF (c :: r) else (i : Int) := by
    rw [hA, skipF, if_neg h1, if_neg h2]
    split
    · rw [if_neg (by omega)]
    · simp
  have hrem : isRemarkF (c :: r) = (begF [47, 42] (c :: r) && !begF [47, 42, 43] (c :: r)) := rfl
  rw [h2f] at hrem
  have hline : isLineF (c :: r) = (decide (c.toNat = 35) || begF [45, 45] (c :: r)) := rfl
  have hfi := fun u t (ht : t.data.toList = [10]) => rfind_ok s t i u (by omega) hs (by rw [← text_len, ht]; decide) (by rw [← text_len, ht]; decide)
  have hlf : lineF (c :: r) = if Lib.indexByte (c :: r) 10 < 0 then s.size - i else (Lib.indexByte (c :: r) 10).toNat := by unfold lineF; rw [List.length_cons, hrl]
  have hff : findF s.data.toList [10] i = if Lib.indexByte (c :: r) 10 < 0 then -1 else (i : Int) + Lib.indexByte (c :: r) 10 := by unfold findF; rw [hl, index_byte]
  have hge := indexByte_lt.indexByte_ge1 (c :: r) 10
  have hroom := fun h => indexByte_lt (l := c :: r) (c := 10) h
  rw [List.length_cons, hrl] at hroom
  rw [hlf] at hA3
  generalize Lib.indexByte (c :: r) 10 = x at hA3 hff hge hroom
  clear hA hlf h2 h2f h1 h1f
  generalize begF [47, 42] (c :: r) = a1 at hP1 hrem
  generalize begF [47, 42, 43] (c :: r) = a2 at hP2 hrem
  generalize begF [45, 45] (c :: r) = b1 at hP3 hline
  generalize decide (c.toNat = 35) = b2 at hP4 hline
  rw [hline] at hA3
  clear hline hl
  have HA := Lib.hid hA3
  have HP1 := Lib.hid hP1
  have HP2 := Lib.hid hP2
  have HP3 := Lib.hid hP3
  have HP4 := Lib.hid hP4
  have HFF := Lib.hid hff
  have HFi := Lib.hid hfi
  have hrem2 : a1 = false ∨ (a1 = true ∧ a2 = true) := by
    cases a1 <;> cases a2 <;> simp at hrem ⊢
  clear hA3 hP1 hP2 hP3 hP4 hff hfi hrem
  rcases hrem2 with rfl | ⟨rfl, rfl⟩
  focus
    go_enter Tryz.func84, Tryz.ntmps84
    go_wp2_with fail
    refine (H1'.out _).mono ?_
    rintro e w1 ⟨rfl, rfl⟩
    go_wp2_with fail
    refine (HP1.out _).mono ?_
    rintro e w1 ⟨rfl, rfl⟩
    go_wp2_with fail
  rotate_left
  focus
    go_enter Tryz.func84, Tryz.ntmps84
    go_wp2_with fail
    refine (H1'.out _).mono ?_
    rintro e w1 ⟨rfl, rfl⟩
    go_wp2_with fail
    refine (HP1.out _).mono ?_
    rintro e w1 ⟨rfl, rfl⟩
    go_wp2_with fail
    refine (HP2.out _).mono ?_
    rintro e w1 ⟨rfl, rfl⟩
    go_wp2_with fail
  all_goals
    refine (HP3.out _).mono ?_
    rintro e w1 ⟨rfl, rfl⟩
    have hT : (convert 185 9 (.slice (some ⟨w.heap.size, 0, none⟩) 1 1)).run Tryz.prog (w.alloc (.cells #[.int .u8 10] 5)) = .ok (.string ⟨#[10]⟩) (w.alloc (.cells #[.int .u8 10] 5)) := (Ow.new1 w w.heap.size (Nat.le_refl _) (.int .u8 10) 10 rfl).text
    have kw := kp_new w (.cells #[.int .u8 10] 5)
    have hF10 := HFi.out (w.alloc (.cells #[.int .u8 10] 5)) ⟨#[10]⟩ rfl
    rw [show (⟨#[10]⟩ : ByteArray).data.toList = [10] from rfl, HFF.out] at hF10
    have HF10 := Lib.hid hF10
    clear hF10
    by_cases hb : (b2 || b1) = true
    · rw [if_pos hb] at HA
      have hbb : b1 = true ∨ (b1 = false ∧ b2 = true) := by cases b1 <;> cases b2 <;> simp at hb ⊢
      by_cases hx : x < 0
      · rw [if_pos hx] at HA HF10
        have hsi : (i : Int) + ((s.size - i : Nat) : Int) = (s.size : Int) := by omega
        have HSI := Lib.hid hsi
        clear hsi
        rcases hbb with rfl | ⟨rfl, rfl⟩
        all_goals
          go_wp2_with (go_at_call 123; refine (HP4.out _).mono ?_; rintro e w1 ⟨rfl, rfl⟩)
          refine HF10.out.mono ?_
          rintro e w1 ⟨rfl, rfl⟩
          go_wp2_with fail
          go_ret
          exact ⟨by rw [HA.out, HSI.out]; rfl, kw⟩
      · rw [if_neg hx] at HA HF10
        obtain ⟨m, rfl⟩ : ∃ m : Nat, x = m := ⟨x.toNat, by omega⟩
        have hr := hroom (by omega)
        rw [Int.toNat_natCast] at hr
        have hxm : ¬ ((i : Int) + (m : Int)) < 0 := by omega
        rcases hbb with rfl | ⟨rfl, rfl⟩
        all_goals
          go_wp2_with (go_at_call 123; refine (HP4.out _).mono ?_; rintro e w1 ⟨rfl, rfl⟩)
          refine HF10.out.mono ?_
          rintro e w1 ⟨rfl, rfl⟩
          go_wp2_with fail
          go_ret
          exact ⟨by rw [HA.out]; rfl, kw⟩
    · rw [if_neg hb] at HA
      obtain ⟨rfl, rfl⟩ : b1 = false ∧ b2 = false := by cases b1 <;> cases b2 <;> simp at hb ⊢
      go_wp2_with fail
      refine (HP4.out _).mono ?_
      rintro e w1 ⟨rfl, rfl⟩
      go_wp2_with fail
      go_ret
      exact ⟨by rw [HA.out]; rfl, Below.refl _ _⟩
end

/- The document's layer 4: the token at a place: contract. -/
section
open Go.RowKit
set_option maxRecDepth 100000

/-- the token that a text begins with, in the document's order -/
def rtokF : List UInt8 → Option (Int × List UInt8 × Nat)
  | [] => none
  | c :: r =>
    if begF [47, 42, 43] (c :: r) then (hintF (c :: r)).map fun x => (5, x.1, x.2)
    else if letterF c then some (1, greatF ((c :: r).take (runF lodF (c :: r))), runF lodF (c :: r))
    else if digitF c then some (4, (c :: r).take (runF digitF (c :: r)), runF digitF (c :: r))
    else if c.toNat = 34 ∨ c.toNat = 96 then (quotedF c r).map fun x => (2, x.1, x.2 + 1)
    else if c.toNat = 39 then (quotedF c r).map fun x => (3, x.1, x.2 + 1)
    else if 33 ≤ c.toNat ∧ c.toNat ≤ 126 then some (6, [c], 1)
    else none

/-- a token, and the place behind it, as a call answers it -/
def AnsT (x : Option (Int × List UInt8 × Nat)) (i : Nat) (k : Int) (r : ByteArray) (n : Int) : Prop :=
  match x with
  | none => n = -1
  | some (k', t, m) => k = k' ∧ r.data.toList = t ∧ n = (i + m : Nat)

/-- one answer of token -/
def TokTo (s : ByteArray) (i : Nat) (w : World) (x : Option (Int × List UInt8 × Nat)) : Prop :=
  Calls Tryz.prog 85 #[.string s, .int .i64 (i : Int)] w fun e w' => ∃ k r n, e = .returned (.tuple #[tokV k r, .int .i64 n]) ∧ AnsT x i k r n ∧ Below w.heap.size w w'

theorem place {s : ByteArray} {i : Nat} {c : UInt8} {r : List UInt8} (hl : s.data.toList.drop i = c :: r) : ∃ h : i < s.size, s[i] = c := by
  have hil : i < s.size := by
    rcases Nat.lt_or_ge i s.size with h | h
    · exact h
    · rw [List.drop_eq_nil_of_le (by rw [text_len]; exact h)] at hl; cases hl
  refine ⟨hil, ?_⟩
  rw [text_at s i hil]
  have e0 : (s.data.toList.drop i)[0]? = some c := by rw [hl]; rfl
  rw [List.getElem?_drop] at e0
  exact (List.getElem?_eq_some_iff.1 e0).2

theorem tok_block (w : World) : (w.alloc (.cells #[.int .i64 0, .string ⟨#[]⟩] 128)).heap[w.heap.size]? = some (.cells #[.int .i64 0, .string ⟨#[]⟩] 128 (0, 0)) ∧ w.heap.size < (w.alloc (.cells #[.int .i64 0, .string ⟨#[]⟩] 128)).heap.size ∧ Below w.heap.size w (w.alloc (.cells #[.int .i64 0, .string ⟨#[]⟩] 128)) :=
  ⟨heap_alloc_new w _, by simp, kp_new w _⟩

set_option maxHeartbeats 1000000 in
theorem rhint_ok (s : ByteArray) (i : Nat) (c : UInt8) (r : List UInt8) (w : World) (hs : s.size ≤ 140737488351232) (hl : s.data.toList.drop i = c :: r) (h1 : begF [47, 42, 43] (c :: r) = true) :
    TokTo s i w ((hintF (c :: r)).map fun x => (5, x.1, x.2)) := by
  unfold TokTo tokV
  obtain ⟨hil, hc0⟩ := place hl
  obtain ⟨hB, hz, kw⟩ := tok_block w
  have h3 : 3 ≤ s.size - i := by
    have h3 := (List.isPrefixOf_iff_prefix.1 h1).length_le
    have := congrArg List.length hl
    rw [List.length_drop, text_len] at this
    rw [this]
    simpa using h3
  have hP := fun u => rat_ok s ⟨#[47, 42, 43]⟩ i u (by omega) hs (by decide) (by decide)
  rw [show (⟨#[47, 42, 43]⟩ : ByteArray).data.toList = [47, 42, 43] from rfl, hl, h1] at hP
  have hfi := fun u => rfind_ok s ⟨#[42, 47]⟩ (i + 3) u (by omega) hs (by decide) (by decide)
  rw [show (⟨#[42, 47]⟩ : ByteArray).data.toList = ends2 from rfl, show findF s.data.toList ends2 (i + 3) = if Lib.index (s.data.toList.drop (i + 3)) ends2 < 0 then -1 else ((i + 3 : Nat) : Int) + Lib.index (s.data.toList.drop (i + 3)) ends2 from rfl] at hfi
  have hroom : 0 ≤ Lib.index (s.data.toList.drop (i + 3)) ends2 → (Lib.index (s.data.toList.drop (i + 3)) ends2).toNat + 2 ≤ s.size - (i + 3) := fun h => by
    have := index_room h (by decide)
    rw [List.length_drop, text_len] at this
    exact this
  have hcl : closedF (c :: r) 3 = if Lib.index (s.data.toList.drop (i + 3)) ends2 < 0 then 0 else 3 + (Lib.index (s.data.toList.drop (i + 3)) ends2).toNat + 2 := by
    unfold closedF
    rw [← hl, List.drop_drop]
  have hH : hintF (c :: r) = if closedF (c :: r) 3 = 0 then none else some (trimF (((c :: r).take (closedF (c :: r) 3 - 2)).drop 3), closedF (c :: r) 3) := rfl
  rw [hcl] at hH
  have htk : ∀ m, ((c :: r).take (3 + m)).drop 3 = (s.data.toList.drop (i + 3)).take m := fun m => by rw [List.drop_take, ← hl, List.drop_drop, Nat.add_sub_cancel_left]
  have HB := Lib.hid hB
  have HZ := Lib.hid hz
  have HP := Lib.hid hP
  generalize Lib.index (s.data.toList.drop (i + 3)) ends2 = x at hfi hroom hH
  clear hB hz hP hcl
  by_cases hx : x < 0
  · rw [if_pos hx] at hH hfi
    rw [hH]
    have HFi := Lib.hid hfi
    clear hH hfi hl htk hroom
    go_enter Tryz.func85, Tryz.ntmps85
    go_wp2_with fail
    refine (HP.out _).mono ?_
    rintro e w1 ⟨rfl, rfl⟩
    go_wp2_with fail
    refine (HFi.out _).mono ?_
    rintro e w1 ⟨rfl, rfl⟩
    obtain ⟨x0, x1, f0, f1⟩ := cells2 HB.out
    go_wp2_with fail
    refine bodyPost_ret (v := .tuple #[.agg #[.int .i64 0, .string ⟨#[]⟩], .int .i64 (-1)]) ?_ rfl ⟨0, ⟨#[]⟩, -1, rfl, rfl, ?_⟩
    · rw [results_cell_tmp rfl]
      go_simp
    · first | exact kw | exact ((kw.setCell (Nat.le_refl _) _).setCell (Nat.le_refl _) _)
  · rw [if_neg hx] at hfi hH
    obtain ⟨m, rfl⟩ : ∃ m : Nat, x = m := ⟨x.toNat, by omega⟩
    have hr := hroom (by omega)
    rw [Int.toNat_natCast] at hr hH
    rw [if_neg (by omega), show 3 + m + 2 - 2 = 3 + m from by omega, htk] at hH
    have hT := fun u => rtrim_ok (s.extract (i + 3) (i + 3 + m)) u (by rw [ByteArray.size_extract]; omega)
    rw [text_cut, show i + 3 + m - (i + 3) = m from by omega] at hT
    rw [hH]
    have HFi := Lib.hid hfi
    have HT := Lib.hid hT
    have e1 : ((i : Int) + 3).toNat = i + 3 := by omega
    have e2 : ((i : Int) + 3 + (m : Int)).toNat = i + 3 + m := by omega
    have e3 : ¬ ((i : Int) + 3 + (m : Int)) < 0 := by omega
    clear hH hfi hl htk hroom hT
    go_enter Tryz.func85, Tryz.ntmps85
    go_wp2_with fail
    refine (HP.out _).mono ?_
    rintro e w1 ⟨rfl, rfl⟩
    go_wp2_with fail
    refine (HFi.out _).mono ?_
    rintro e w1 ⟨rfl, rfl⟩
    go_wp2_with fail
    refine (HT.out _).mono ?_
    rintro e w1 ⟨rr, rfl, hrr, rfl⟩
    obtain ⟨x0, x1, f0, f1⟩ := cells2 HB.out
    go_wp2_with fail
    refine bodyPost_ret (v := .tuple #[.agg #[.int .i64 5, .string rr], .int .i64 ((i + (3 + m + 2) : Nat) : Int)]) ?_ rfl ⟨5, rr, _, rfl, ⟨rfl, hrr, rfl⟩, ?_⟩
    · rw [results_cell_tmp rfl]
      go_simp
      try omega
    · first | exact kw | exact ((kw.setCell (Nat.le_refl _) _).setCell (Nat.le_refl _) _) | exact kp_new _ _
end

/- The document's layer 4: the token at a place, words and numbers and signs: contracts. -/
section
open Go.RowKit
set_option maxRecDepth 100000

theorem runF_at {p : UInt8 → Bool} {l : List UInt8} {k : Nat} (h : k < l.length) : runF p (l.drop k) = if p l[k] then runF p (l.drop (k + 1)) + 1 else 0 := by
  rw [List.drop_eq_getElem_cons h, runF]

set_option maxHeartbeats 2000000 in
theorem rword_ok (s : ByteArray) (i : Nat) (c : UInt8) (r : List UInt8) (w : World) (hs : s.size ≤ 140737488351232) (hl : s.data.toList.drop i = c :: r) (h1 : begF [47, 42, 43] (c :: r) = false) (h2 : letterF c = true) :
    TokTo s i w (some (1, greatF ((c :: r).take (runF lodF (c :: r))), runF lodF (c :: r))) := by
  unfold TokTo tokV
  obtain ⟨hil, hc0⟩ := place hl
  obtain ⟨hB, hz, kw⟩ := tok_block w
  have hP := fun u => rat_ok s ⟨#[47, 42, 43]⟩ i u (by omega) hs (by decide) (by decide)
  rw [show (⟨#[47, 42, 43]⟩ : ByteArray).data.toList = [47, 42, 43] from rfl, hl, h1] at hP
  have H2 := fun u => rletter_ok c u
  rw [h2] at H2
  have hlen := Lib.hid (text_len s)
  have hle := runF_le lodF (c :: r)
  have hrl : (c :: r).length = s.size - i := by rw [← hl, List.length_drop, text_len]
  rw [hrl] at hle
  have htk : ∀ m, (s.extract i (i + m)).data.toList = (c :: r).take m := fun m => by rw [text_cut, hl, Nat.add_sub_cancel_left]
  have hR : runF lodF (c :: r) = runF lodF (s.data.toList.drop i) := by rw [hl]
  generalize runF lodF (c :: r) = R at hR hle ⊢
  have HR := Lib.hid hR
  have HB := Lib.hid hB
  have HZ := Lib.hid hz
  have HP := Lib.hid hP
  have H2' := Lib.hid H2
  have HTK := Lib.hid htk
  clear hB hz hP H2 h1 h2 hrl htk hR hl
  go_enter Tryz.func85, Tryz.ntmps85
  go_wp2_with fail
  refine (HP.out _).mono ?_
  rintro e w1 ⟨rfl, rfl⟩
  go_wp2_with fail
  refine (H2'.out _).mono ?_
  rintro e w1 ⟨rfl, rfl⟩
  go_wp2_with fail
  go_loop [8] (fun v => ∃ k : Nat, v = .int .i64 k ∧ i ≤ k ∧ k ≤ s.size ∧ Hid (R = (k - i) + runF lodF (s.data.toList.drop k))) (fun v => s.size - (intOf v).toNat)
  case atStart => exact ⟨i, rfl, Nat.le_refl _, by omega, Lib.hid (by rw [HR.out]; omega)⟩
  case round =>
    obtain ⟨k, rfl, hk, hks, hx⟩ := hrel
    clear HR
    have hcase : (k < s.size ∧ R ≠ k - i) ∨ R = k - i := by
      by_cases h : R = k - i
      · exact .inr h
      · refine .inl ⟨?_, h⟩
        rcases Nat.lt_or_ge k s.size with h3 | h3
        · exact h3
        · exfalso
          apply h
          rw [hx.out, List.drop_eq_nil_of_le (by rw [hlen.out]; exact h3)]
          rfl
    by_cases hlt : k < s.size
    · have hb := text_at s k hlt
      have hkl : k < s.data.toList.length := by rw [hlen.out]; exact hlt
      have hstep := runF_at (p := lodF) hkl
      rw [hstep] at hx
      generalize s.data.toList[k] = b at hb hx hstep
      clear hstep
      have hL := fun u => rletter_ok b u
      have hD := fun u => rdigit_ok b u
      cases hlo : letterF b
      · rw [hlo] at hL
        cases hdi : digitF b
        · rw [hdi] at hD
          have hR2 : R = k - i := by
            rw [hx.out, if_neg (by simp [lodF, hlo, hdi])]
            rfl
          subst hR2
          have HL := Lib.hid hL
          have HD := Lib.hid hD
          have ek : i + (k - i) = k := by omega
          have hG := fun u => word_ok (s.extract i k) u (by rw [ByteArray.size_extract]; omega)
          have ht := HTK.out (k - i)
          rw [ek] at ht
          rw [ht] at hG
          have HG := Lib.hid hG
          have HE := Lib.hid ek
          clear hL hD hlo hdi hx hG ht ek hcase
          go_wp2_with fail
          refine (HL.out _).mono ?_
          rintro e w1 ⟨rfl, rfl⟩
          go_wp2_with fail
          refine (HD.out _).mono ?_
          rintro e w1 ⟨rfl, rfl⟩
          go_wp2_with fail
          refine (HG.out _).mono ?_
          rintro e w2 ⟨rr, rfl, hrr, k2⟩
          obtain ⟨x0, x1, f0, f1⟩ := cells2 ((k2.block _ HZ.out).trans HB.out)
          go_wp2_with fail
          refine bodyPost_ret (v := .tuple #[.agg #[.int .i64 1, .string rr], .int .i64 (k : Int)]) ?_ rfl ⟨1, rr, _, rfl, ⟨rfl, hrr, by rw [HE.out]⟩, ?_⟩
          · rw [results_cell_tmp rfl]
            go_simp
          · exact (((kp_trans kw k2).setCell (Nat.le_refl _) _).setCell (Nat.le_refl _) _)
        · rw [hdi] at hD
          have hx2 : Hid (R = (k + 1 - i) + runF lodF (s.data.toList.drop (k + 1))) := Lib.hid (by
            rw [hx.out, if_pos (by simp [lodF, hdi])]
            omega)
          have HL := Lib.hid hL
          have HD := Lib.hid hD
          clear hL hD hlo hdi hx hcase
          go_wp2_with fail
          refine (HL.out _).mono ?_
          rintro e w1 ⟨rfl, rfl⟩
          go_wp2_with fail
          refine (HD.out _).mono ?_
          rintro e w1 ⟨rfl, rfl⟩
          go_wp2_with fail
          go_round
          case rel => exact ⟨k + 1, by go_num, by omega, by omega, hx2⟩
          case measure => simp [intOf]; omega
      · rw [hlo] at hL
        have hx2 : Hid (R = (k + 1 - i) + runF lodF (s.data.toList.drop (k + 1))) := Lib.hid (by
          rw [hx.out, if_pos (by simp [lodF, hlo])]
          omega)
        have HL := Lib.hid hL
        clear hL hlo hx hcase hD
        go_wp2_with fail
        refine (HL.out _).mono ?_
        rintro e w1 ⟨rfl, rfl⟩
        go_wp2_with fail
        go_round
        case rel => exact ⟨k + 1, by go_num, by omega, by omega, hx2⟩
        case measure => simp [intOf]; omega
    · have hR2 : R = k - i := by rcases hcase with h | h <;> omega
      subst hR2
      have ek : i + (k - i) = k := by omega
      have hG := fun u => word_ok (s.extract i k) u (by rw [ByteArray.size_extract]; omega)
      have ht := HTK.out (k - i)
      rw [ek] at ht
      rw [ht] at hG
      have HG := Lib.hid hG
      have HE := Lib.hid ek
      clear hx hG ht ek hcase
      go_wp2_with fail
      refine (HG.out _).mono ?_
      rintro e w2 ⟨rr, rfl, hrr, k2⟩
      obtain ⟨x0, x1, f0, f1⟩ := cells2 ((k2.block _ HZ.out).trans HB.out)
      go_wp2_with fail
      refine bodyPost_ret (v := .tuple #[.agg #[.int .i64 1, .string rr], .int .i64 (k : Int)]) ?_ rfl ⟨1, rr, _, rfl, ⟨rfl, hrr, by rw [HE.out]⟩, ?_⟩
      · rw [results_cell_tmp rfl]
        go_simp
      · exact (((kp_trans kw k2).setCell (Nat.le_refl _) _).setCell (Nat.le_refl _) _)

set_option maxHeartbeats 2000000 in
theorem rnumber_ok (s : ByteArray) (i : Nat) (c : UInt8) (r : List UInt8) (w : World) (hs : s.size ≤ 140737488351232) (hl : s.data.toList.drop i = c :: r) (h1 : begF [47, 42, 43] (c :: r) = false) (h2 : letterF c = false) (h3 : digitF c = true) :
    TokTo s i w (some (4, (c :: r).take (runF digitF (c :: r)), runF digitF (c :: r))) := by
  unfold TokTo tokV
  obtain ⟨hil, hc0⟩ := place hl
  obtain ⟨hB, hz, kw⟩ := tok_block w
  have hP := fun u => rat_ok s ⟨#[47, 42, 43]⟩ i u (by omega) hs (by decide) (by decide)
  rw [show (⟨#[47, 42, 43]⟩ : ByteArray).data.toList = [47, 42, 43] from rfl, hl, h1] at hP
  have H2 := fun u => rletter_ok c u
  rw [h2] at H2
  have H3 := fun u => rdigit_ok c u
  rw [h3] at H3
  have hlen := Lib.hid (text_len s)
  have hle := runF_le digitF (c :: r)
  have hrl : (c :: r).length = s.size - i := by rw [← hl, List.length_drop, text_len]
  rw [hrl] at hle
  have htk : ∀ m, (s.extract i (i + m)).data.toList = (c :: r).take m := fun m => by rw [text_cut, hl, Nat.add_sub_cancel_left]
  have hR : runF digitF (c :: r) = runF digitF (s.data.toList.drop i) := by rw [hl]
  generalize runF digitF (c :: r) = R at hR hle ⊢
  have HR := Lib.hid hR
  have HB := Lib.hid hB
  have HZ := Lib.hid hz
  have HP := Lib.hid hP
  have H2' := Lib.hid H2
  have H3' := Lib.hid H3
  have HTK := Lib.hid htk
  clear hB hz hP H2 H3 h1 h2 h3 hrl htk hR hl
  go_enter Tryz.func85, Tryz.ntmps85
  go_wp2_with fail
  refine (HP.out _).mono ?_
  rintro e w1 ⟨rfl, rfl⟩
  go_wp2_with fail
  refine (H2'.out _).mono ?_
  rintro e w1 ⟨rfl, rfl⟩
  go_wp2_with fail
  refine (H3'.out _).mono ?_
  rintro e w1 ⟨rfl, rfl⟩
  go_wp2_with fail
  go_loop [9] (fun v => ∃ k : Nat, v = .int .i64 k ∧ i ≤ k ∧ k ≤ s.size ∧ Hid (R = (k - i) + runF digitF (s.data.toList.drop k))) (fun v => s.size - (intOf v).toNat)
  case atStart => exact ⟨i, rfl, Nat.le_refl _, by omega, Lib.hid (by rw [HR.out]; omega)⟩
  case round =>
    obtain ⟨k, rfl, hk, hks, hx⟩ := hrel
    clear HR
    by_cases hlt : k < s.size
    · have hb := text_at s k hlt
      have hkl : k < s.data.toList.length := by rw [hlen.out]; exact hlt
      have hstep := runF_at (p := digitF) hkl
      rw [hstep] at hx
      generalize s.data.toList[k] = b at hb hx hstep
      clear hstep
      have hD := fun u => rdigit_ok b u
      cases hdi : digitF b
      · rw [hdi] at hD
        have hR2 : R = k - i := by
          rw [hx.out, if_neg (by simp [hdi])]
          rfl
        subst hR2
        have HD := Lib.hid hD
        have ek : i + (k - i) = k := by omega
        have ht := HTK.out (k - i)
        rw [ek] at ht
        have HT := Lib.hid ht
        have HE := Lib.hid ek
        clear hD hdi hx ht ek
        obtain ⟨x0, x1, f0, f1⟩ := cells2 HB.out
        go_wp2_with fail
        refine (HD.out _).mono ?_
        rintro e w1 ⟨rfl, rfl⟩
        go_wp2_with fail
        refine bodyPost_ret (v := .tuple #[.agg #[.int .i64 4, .string (s.extract i k)], .int .i64 (k : Int)]) ?_ rfl ⟨4, s.extract i k, _, rfl, ⟨rfl, HT.out, by rw [HE.out]⟩, ?_⟩
        · rw [results_cell_tmp rfl]
          go_simp
        · first | exact kw | exact ((kw.setCell (Nat.le_refl _) _).setCell (Nat.le_refl _) _) | exact kp_new _ _
      · rw [hdi] at hD
        have hx2 : Hid (R = (k + 1 - i) + runF digitF (s.data.toList.drop (k + 1))) := Lib.hid (by
          rw [hx.out, if_pos (by simp [hdi])]
          omega)
        have HD := Lib.hid hD
        clear hD hdi hx
        go_wp2_with fail
        refine (HD.out _).mono ?_
        rintro e w1 ⟨rfl, rfl⟩
        go_wp2_with fail
        go_round
        case rel => exact ⟨k + 1, by go_num, by omega, by omega, hx2⟩
        case measure => simp [intOf]; omega
    · have hR2 : R = k - i := by
        rw [hx.out, List.drop_eq_nil_of_le (by rw [hlen.out]; omega)]
        rfl
      subst hR2
      have ek : i + (k - i) = k := by omega
      have ht := HTK.out (k - i)
      rw [ek] at ht
      have HT := Lib.hid ht
      have HE := Lib.hid ek
      clear hx ht ek
      obtain ⟨x0, x1, f0, f1⟩ := cells2 HB.out
      go_wp2_with fail
      refine bodyPost_ret (v := .tuple #[.agg #[.int .i64 4, .string (s.extract i k)], .int .i64 (k : Int)]) ?_ rfl ⟨4, s.extract i k, _, rfl, ⟨rfl, HT.out, by rw [HE.out]⟩, ?_⟩
      · rw [results_cell_tmp rfl]
        go_simp
      · first | exact kw | exact ((kw.setCell (Nat.le_refl _) _).setCell (Nat.le_refl _) _) | exact kp_new _ _
end

/- The document's layer 4: the token at a place, quotes and signs; all of it: contracts. -/
section
open Go.RowKit
set_option maxRecDepth 100000

set_option maxHeartbeats 1000000 in
theorem rname_ok (s : ByteArray) (i : Nat) (c : UInt8) (r : List UInt8) (w : World) (hs : s.size ≤ 140737488351232) (hl : s.data.toList.drop i = c :: r) (h1 : begF [47, 42, 43] (c :: r) = false) (h2 : letterF c = false) (h3 : digitF c = false) (h4 : c.toNat = 34 ∨ c.toNat = 96) :
    TokTo s i w ((quotedF c r).map fun x => (2, x.1, x.2 + 1)) := by
  unfold TokTo tokV
  obtain ⟨hil, hc0⟩ := place hl
  obtain ⟨hB, hz, kw⟩ := tok_block w
  have hP := fun u => rat_ok s ⟨#[47, 42, 43]⟩ i u (by omega) hs (by decide) (by decide)
  rw [show (⟨#[47, 42, 43]⟩ : ByteArray).data.toList = [47, 42, 43] from rfl, hl, h1] at hP
  have H2 := fun u => rletter_ok c u
  rw [h2] at H2
  have H3 := fun u => rdigit_ok c u
  rw [h3] at H3
  have HB := Lib.hid hB
  have HZ := Lib.hid hz
  have HP := Lib.hid hP
  have H2' := Lib.hid H2
  have H3' := Lib.hid H3
  have HL := Lib.hid hl
  clear hB hz hP H2 H3 h1 h2 h3
  have hQ := fun u => between_ok s i c r u hs HL.out
  have HQ := Lib.hid hQ
  have h4b : (((c.toNat : Int) == 34) = true) ∨ (((c.toNat : Int) == 34) = false ∧ ((c.toNat : Int) == 96) = true) := by
    simp only [beq_iff_eq, beq_eq_false_iff_ne, ne_eq]
    omega
  clear hQ h4 hl
  rcases h4b with h4a | ⟨h4a, h4c⟩
  all_goals
    go_enter Tryz.func85, Tryz.ntmps85
    go_wp2_with fail
    refine (HP.out _).mono ?_
    rintro e w1 ⟨rfl, rfl⟩
    go_wp2_with fail
    refine (H2'.out _).mono ?_
    rintro e w1 ⟨rfl, rfl⟩
    go_wp2_with fail
    refine (H3'.out _).mono ?_
    rintro e w1 ⟨rfl, rfl⟩
    go_wp2_with fail
    refine (HQ.out _).mono ?_
    rintro e w2 ⟨rr, n, rfl, hA, k2⟩
    obtain ⟨x0, x1, f0, f1⟩ := cells2 ((k2.block _ HZ.out).trans HB.out)
    go_wp2_with fail
    refine bodyPost_ret (v := .tuple #[.agg #[.int .i64 2, .string rr], .int .i64 n]) ?_ rfl ⟨2, rr, n, rfl, ?_, ?_⟩
    · rw [results_cell_tmp rfl]
      go_simp
    · cases hq : quotedF c r with
      | none => rw [hq] at hA; exact hA
      | some x => rw [hq] at hA; exact ⟨rfl, hA.1, by rw [hA.2]; congr 1; omega⟩
    · exact (((kp_trans kw k2).setCell (Nat.le_refl _) _).setCell (Nat.le_refl _) _)

set_option maxHeartbeats 1000000 in
theorem rstring_ok (s : ByteArray) (i : Nat) (c : UInt8) (r : List UInt8) (w : World) (hs : s.size ≤ 140737488351232) (hl : s.data.toList.drop i = c :: r) (h1 : begF [47, 42, 43] (c :: r) = false) (h2 : letterF c = false) (h3 : digitF c = false) (h4 : c.toNat = 39) :
    TokTo s i w ((quotedF c r).map fun x => (3, x.1, x.2 + 1)) := by
  unfold TokTo tokV
  obtain ⟨hil, hc0⟩ := place hl
  obtain ⟨hB, hz, kw⟩ := tok_block w
  have hP := fun u => rat_ok s ⟨#[47, 42, 43]⟩ i u (by omega) hs (by decide) (by decide)
  rw [show (⟨#[47, 42, 43]⟩ : ByteArray).data.toList = [47, 42, 43] from rfl, hl, h1] at hP
  have H2 := fun u => rletter_ok c u
  rw [h2] at H2
  have H3 := fun u => rdigit_ok c u
  rw [h3] at H3
  have HB := Lib.hid hB
  have HZ := Lib.hid hz
  have HP := Lib.hid hP
  have H2' := Lib.hid H2
  have H3' := Lib.hid H3
  have HL := Lib.hid hl
  clear hB hz hP H2 H3 h1 h2 h3
  have hQ := fun u => between_ok s i c r u hs HL.out
  have HQ := Lib.hid hQ
  have h4a : ((c.toNat : Int) == 34) = false := by simp only [beq_eq_false_iff_ne, ne_eq]; omega
  have h4b : ((c.toNat : Int) == 96) = false := by simp only [beq_eq_false_iff_ne, ne_eq]; omega
  have h4c : ((c.toNat : Int) == 39) = true := by simp only [beq_iff_eq]; omega
  clear hQ h4 hl
  go_enter Tryz.func85, Tryz.ntmps85
  go_wp2_with fail
  refine (HP.out _).mono ?_
  rintro e w1 ⟨rfl, rfl⟩
  go_wp2_with fail
  refine (H2'.out _).mono ?_
  rintro e w1 ⟨rfl, rfl⟩
  go_wp2_with fail
  refine (H3'.out _).mono ?_
  rintro e w1 ⟨rfl, rfl⟩
  go_wp2_with fail
  refine (HQ.out _).mono ?_
  rintro e w2 ⟨rr, n, rfl, hA, k2⟩
  obtain ⟨x0, x1, f0, f1⟩ := cells2 ((k2.block _ HZ.out).trans HB.out)
  go_wp2_with fail
  refine bodyPost_ret (v := .tuple #[.agg #[.int .i64 3, .string rr], .int .i64 n]) ?_ rfl ⟨3, rr, n, rfl, ?_, ?_⟩
  · rw [results_cell_tmp rfl]
    go_simp
  · cases hq : quotedF c r with
    | none => rw [hq] at hA; exact hA
    | some x => rw [hq] at hA; exact ⟨rfl, hA.1, by rw [hA.2]; congr 1; omega⟩
  · exact (((kp_trans kw k2).setCell (Nat.le_refl _) _).setCell (Nat.le_refl _) _)

set_option maxHeartbeats 1000000 in
theorem rsign_ok (s : ByteArray) (i : Nat) (c : UInt8) (r : List UInt8) (w : World) (hs : s.size ≤ 140737488351232) (hl : s.data.toList.drop i = c :: r) (h1 : begF [47, 42, 43] (c :: r) = false) (h2 : letterF c = false) (h3 : digitF c = false) (h4 : ¬ (c.toNat = 34 ∨ c.toNat = 96)) (h5 : ¬ c.toNat = 39) :
    TokTo s i w (if 33 ≤ c.toNat ∧ c.toNat ≤ 126 then some (6, [c], 1) else none) := by
  unfold TokTo tokV
  obtain ⟨hil, hc0⟩ := place hl
  obtain ⟨hB, hz, kw⟩ := tok_block w
  have hP := fun u => rat_ok s ⟨#[47, 42, 43]⟩ i u (by omega) hs (by decide) (by decide)
  rw [show (⟨#[47, 42, 43]⟩ : ByteArray).data.toList = [47, 42, 43] from rfl, hl, h1] at hP
  have H2 := fun u => rletter_ok c u
  rw [h2] at H2
  have H3 := fun u => rdigit_ok c u
  rw [h3] at H3
  have HB := Lib.hid hB
  have HZ := Lib.hid hz
  have HP := Lib.hid hP
  have H2' := Lib.hid H2
  have H3' := Lib.hid H3
  have HL := Lib.hid hl
  clear hB hz hP H2 H3 h1 h2 h3
  have h4a : ((c.toNat : Int) == 34) = false := by simp only [beq_eq_false_iff_ne, ne_eq]; omega
  have h4b : ((c.toNat : Int) == 96) = false := by simp only [beq_eq_false_iff_ne, ne_eq]; omega
  have h4c : ((c.toNat : Int) == 39) = false := by simp only [beq_eq_false_iff_ne, ne_eq]; omega
  have ht : (s.extract i (i + 1)).data.toList = [c] := by rw [text_cut, hl, Nat.add_sub_cancel_left]; rfl
  have HT := Lib.hid ht
  have e1 : ((i : Int) + 1).toNat = i + 1 := by omega
  clear h4 h5 hl ht
  by_cases h6 : 33 ≤ c.toNat ∧ c.toNat ≤ 126
  · rw [if_pos h6]
    obtain ⟨h6, h7⟩ := h6
    go_enter Tryz.func85, Tryz.ntmps85
    go_wp2_with fail
    refine (HP.out _).mono ?_
    rintro e w1 ⟨rfl, rfl⟩
    go_wp2_with fail
    refine (H2'.out _).mono ?_
    rintro e w1 ⟨rfl, rfl⟩
    go_wp2_with fail
    refine (H3'.out _).mono ?_
    rintro e w1 ⟨rfl, rfl⟩
    obtain ⟨x0, x1, f0, f1⟩ := cells2 HB.out
    go_wp2_with fail
    refine bodyPost_ret (v := .tuple #[.agg #[.int .i64 6, .string (s.extract i (i + 1))], .int .i64 ((i + 1 : Nat) : Int)]) ?_ rfl ⟨6, s.extract i (i + 1), _, rfl, ⟨rfl, HT.out, rfl⟩, ?_⟩
    · rw [results_cell_tmp rfl]
      go_simp
    · first | exact kw | exact ((kw.setCell (Nat.le_refl _) _).setCell (Nat.le_refl _) _) | exact kp_new _ _
  · rw [if_neg h6]
    have h7 : (¬ 33 ≤ c.toNat) ∨ (33 ≤ c.toNat ∧ ¬ c.toNat ≤ 126) := by omega
    clear h6
    rcases h7 with h6 | ⟨h6, h7⟩
    all_goals
      go_enter Tryz.func85, Tryz.ntmps85
      go_wp2_with fail
      refine (HP.out _).mono ?_
      rintro e w1 ⟨rfl, rfl⟩
      go_wp2_with fail
      refine (H2'.out _).mono ?_
      rintro e w1 ⟨rfl, rfl⟩
      go_wp2_with fail
      refine (H3'.out _).mono ?_
      rintro e w1 ⟨rfl, rfl⟩
      obtain ⟨x0, x1, f0, f1⟩ := cells2 HB.out
      go_wp2_with fail
      refine bodyPost_ret (v := .tuple #[.agg #[.int .i64 0, .string ⟨#[]⟩], .int .i64 (-1)]) ?_ rfl ⟨0, ⟨#[]⟩, -1, rfl, rfl, ?_⟩
      · rw [results_cell_tmp rfl]
        go_simp
      · first | exact kw | exact ((kw.setCell (Nat.le_refl _) _).setCell (Nat.le_refl _) _) | exact kp_new _ _

theorem token_ok (s : ByteArray) (i : Nat) (w : World) (hs : s.size ≤ 140737488351232) (hi : i < s.size) : TokTo s i w (rtokF (s.data.toList.drop i)) := by
  obtain ⟨c, r, hl⟩ : ∃ c r, s.data.toList.drop i = c :: r := ⟨_, _, List.drop_eq_getElem_cons (by rw [text_len]; exact hi)⟩
  rw [hl, rtokF]
  by_cases h1 : begF [47, 42, 43] (c :: r) = true
  · rw [if_pos h1]; exact rhint_ok s i c r w hs hl h1
  rw [if_neg h1]
  have h1f : begF [47, 42, 43] (c :: r) = false := by simpa using h1
  by_cases h2 : letterF c = true
  · rw [if_pos h2]; exact rword_ok s i c r w hs hl h1f h2
  rw [if_neg h2]
  have h2f : letterF c = false := by simpa using h2
  by_cases h3 : digitF c = true
  · rw [if_pos h3]; exact rnumber_ok s i c r w hs hl h1f h2f h3
  rw [if_neg h3]
  have h3f : digitF c = false := by simpa using h3
  by_cases h4 : c.toNat = 34 ∨ c.toNat = 96
  · rw [if_pos h4]; exact rname_ok s i c r w hs hl h1f h2f h3f h4
  rw [if_neg h4]
  by_cases h5 : c.toNat = 39
  · rw [if_pos h5]; exact rstring_ok s i c r w hs hl h1f h2f h3f h5
  rw [if_neg h5]
  exact rsign_ok s i c r w hs hl h1f h2f h3f h4 h5
end
end Go.Proofs.YtaoegiohnebnhaaGreatDoor
