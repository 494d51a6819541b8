/-
  Contracts and plain functions that the law stands on, part 1 of 24.
-/
import Derived.Test.YtdhnpmagapbmhaaGreatDoorRows
import Derived.WalkKit
import Derived.WalkSpells
import Derived.Lib.Hide
import Derived.Lib.AppendStr
import Derived.Lib.BufferRead
import Derived.Lib.ConvBytes
import Derived.Laws.IdiomStrings
import Derived.Laws.CopyOwn
import Derived.Deep.Draws
import Derived.Lib.IndexMore
import Derived.Lib.Strings
import Derived.Lib.SlTrimSet
import Derived.Test.YtdhnpmagapbmhaaGreatDoorBLay
import Derived.Shelf.Strings.SlTrimAscii
import Derived.BigCall
namespace Go.Proofs.YtdhnpmagapbmhaaGreatDoor
/- Words for lists of bytes and what memory holds of them; no function of the program is named here. -/
section
open Go.RowKit
theorem hid {p : Prop} (h : p) : Hid p := Lib.hid h
def bv (b : UInt8) : Value := .int .u8 (b.toNat : Int)
def bvs (l : List UInt8) : List Value := l.map bv
theorem bvs_length (l : List UInt8) : (bvs l).length = l.length := by simp [bvs]
theorem bvs_append (l r : List UInt8) : bvs (l ++ r) = bvs l ++ bvs r := by simp [bvs]
theorem bvs_get (l : List UInt8) (k : Nat) (h : k < l.length) : (bvs l)[k]? = some (bv l[k]) := by simp [bvs, h]
def Rd (w : World) (B : Nat) (A : Option Addr) (xs : List Value) : Prop :=
 xs = [] ∨ ∃ ad, A = some ad ∧ ad.block < B ∧ ∀ j u, xs[j]? = some u → w.cell? (ad.add j) = some u
theorem add_block (a : Addr) (n : Nat) : (a.add n).block = a.block := by unfold Addr.add; split <;> rfl
theorem add_add (a : Addr) (i j : Nat) : (a.add i).add j = a.add (i + j) := by
 unfold Addr.add; by_cases hi : i = 0 <;> by_cases hj : j = 0 <;> simp [hi, hj, Nat.add_assoc]
section
variable {w w' : World} {B : Nat} {A : Option Addr} {xs : List Value}
theorem Rd.keep (h : Rd w B A xs) (hk : ∀ p : Addr, p.block < B → w'.cell? p = w.cell? p) : Rd w' B A xs := by
 rcases h with h | ⟨ad, e, hb, hc⟩
 · exact .inl h
 · exact .inr ⟨ad, e, hb, fun j u hu => (hk _ (by rw [add_block]; exact hb)).trans (hc j u hu)⟩
theorem Rd.more {B' : Nat} (h : Rd w B A xs) (hB : B ≤ B') : Rd w B' A xs := by
 rcases h with h | ⟨ad, e, hb, hc⟩
 · exact .inl h
 · exact .inr ⟨ad, e, by omega, hc⟩
theorem Rd.below {B' : Nat} (h : Rd w B A xs) (hb : Below B' w w') (hB : B ≤ B') : Rd w' B A xs := h.keep fun _ hp => hb.cell (by omega)
theorem Rd.at_ (h : Rd w B A xs) {k : Nat} (hk : k < xs.length) : ∃ ad, A = some ad ∧ ad.block < B ∧ w.cell? (ad.add k) = some xs[k] := by
 rcases h with rfl | ⟨ad, e, hb, hc⟩
 · simp at hk
 · exact ⟨ad, e, hb, hc k _ (List.getElem?_eq_getElem hk)⟩
theorem Rd.addr (h : Rd w B A xs) (hk : 0 < xs.length) : ∃ ad, A = some ad ∧ ad.block < B ∧ ∀ j u, xs[j]? = some u → w.cell? (ad.add j) = some u := by
 rcases h with rfl | h
 · simp at hk
 · exact h
theorem Rd.cut {k cap : Nat} (h : Rd w B A xs) (hc : xs.length ≤ cap) : Rd w B (if cap = k then A else A.map (·.add k)) (xs.drop k) := by
 rcases Nat.lt_or_ge k xs.length with hlt | hge
 · obtain ⟨ad, rfl, hb, hcell⟩ := h.addr (by omega); rw [if_neg (by omega)]; refine .inr ⟨ad.add k, rfl, by rw [add_block]; exact hb, fun j u hu => ?_⟩; rw [add_add]; exact hcell _ u (by rw [← hu, List.getElem?_drop])
 · rw [List.drop_eq_nil_of_le hge]; exact .inl rfl
theorem Rd.front (h : Rd w B A xs) (k : Nat) : Rd w B A (xs.take k) := by
 rcases h with rfl | ⟨ad, e, hb, hc⟩
 · exact .inl (by simp)
 · refine .inr ⟨ad, e, hb, fun j u hu => hc j u ?_⟩; rw [List.getElem?_take] at hu; split at hu
   · exact hu
   · cases hu
theorem Rd.of_own {base n c : Nat} {e : TypeId} (h : w.ownsRow base e 1 (.slice A n c) n xs) : Rd w w.heap.size A xs := by
 rcases h.2 with ⟨_, hn⟩ | ⟨g, cap, cur, hv, _, hg, _⟩
 · exact .inl (List.eq_nil_of_length_eq_zero (by have := h.1; omega))
 · have hA : A = some ⟨g, 0, none⟩ := by injection hv
   subst hA; exact .inr ⟨_, rfl, (Array.getElem?_eq_some_iff.1 hg).1, h.cells (g := g) rfl⟩
end
theorem own_form {w : World} {base n : Nat} {e : TypeId} {v : Value} {xs : List Value} (h : w.ownsRow base e 1 v n xs) : ∃ A c, v = .slice A n c ∧ n ≤ c ∧ c ≤ maxLen := by
 rcases h.2 with ⟨rfl, rfl⟩ | ⟨g, cap, cur, rfl, _, _, h1, h2, _⟩
 · exact ⟨_, _, rfl, Nat.le_refl _, by simp [maxLen]⟩
 · exact ⟨_, _, rfl, h1, h2⟩
theorem below_own {w w' : World} {base n : Nat} {e : TypeId} {v : Value} {xs : List Value} (h : w.ownsRow base e 1 v n xs) (hg : w.grownBy w' v.ownBlock) (hb : base ≤ w.heap.size) : Below base w w' :=
 (Below.refl _ _).grown hg hb (fun k hk => (h.lt k hk).1)
theorem below_drewN {B : Nat} {a w : World} (h : Below B a w) (n : Nat) : Below B a (w.drewN n) := ⟨h.os, h.tape, h.output, h.size, h.block⟩
structure Sl (w : World) (B : Nat) (A : Option Addr) (l c : Nat) (bs : List UInt8) : Prop where
 rd : Rd w B A (bvs bs)
 len : bs.length = l
 cap : l ≤ c
structure Ow (w : World) (base : Nat) (A : Option Addr) (l c : Nat) (bs : List UInt8) : Prop where
 own : w.ownsRow base 5 1 (.slice A l c) l (bvs bs)
 len : bs.length = l
 cap : l ≤ c
 most : c ≤ 9223372036854775807
theorem Ow.mk' {w : World} {base : Nat} {v : Value} {l : Nat} {bs : List UInt8} (h : w.ownsRow base 5 1 v l (bvs bs)) : ∃ A c, v = .slice A l c ∧ Ow w base A l c bs := by
 obtain ⟨A, c, rfl, h1, h2⟩ := own_form h; have := h.1; rw [bvs_length] at this; exact ⟨A, c, rfl, h, by omega, h1, by unfold maxLen at h2; omega⟩
theorem Ow.sl {w : World} {base : Nat} {A : Option Addr} {l c : Nat} {bs : List UInt8} (h : Ow w base A l c bs) : Sl w w.heap.size A l c bs := ⟨Rd.of_own h.own, h.len, h.cap⟩
theorem Rd.new (w : World) (t : TypeId) (xs : List Value) : Rd (w.alloc (.cells xs.toArray t)) (w.heap.size + 1) (some ⟨w.heap.size, 0, none⟩) xs := by
 refine .inr ⟨_, rfl, by simp, fun j u hu => ?_⟩; have hadd : (⟨w.heap.size, 0, none⟩ : Addr).add j = ⟨w.heap.size, j, none⟩ := by unfold Addr.add; split <;> simp_all
 rw [hadd, cell_of_row _ _ j xs.toArray t (0, 0) (heap_alloc_new w _)]; simpa using hu
theorem Ow.new (w : World) (base : Nat) (hb : base ≤ w.heap.size) (bs : List UInt8) (hl : bs.length ≤ 1000000) : Ow (w.alloc (.cells (bvs bs).toArray 5)) base (some ⟨w.heap.size, 0, none⟩) bs.length bs.length bs :=
 ⟨⟨by rw [bvs_length]; omega, .inr ⟨w.heap.size, bs.length, _, rfl, hb, heap_alloc_new w _, Nat.le_refl _, by unfold maxLen; omega, by simp [bvs], List.take_of_length_le (by simp [bvs])⟩⟩, rfl, Nat.le_refl _, by omega⟩
theorem Ow.new1 (w : World) (base : Nat) (hb : base ≤ w.heap.size) (x : Value) (b : UInt8) (hx : x = bv b) : Ow (w.alloc (.cells #[x] 5)) base (some ⟨w.heap.size, 0, none⟩) 1 1 [b] := by
 subst hx; exact Ow.new w base hb [b] (by simp)
theorem kp_trans {a b c : World} (h : Below a.heap.size a b) (k : Below b.heap.size b c) : Below a.heap.size a c := h.trans (k.mono h.size)
theorem kp_alloc {a b : World} (h : Below a.heap.size a b) (o : Obj) : Below a.heap.size a (b.alloc o) := h.alloc h.size o
theorem kp_new (a : World) (o : Obj) : Below a.heap.size a (a.alloc o) := kp_alloc (Below.refl _ _) o
theorem kp_drewN (a : World) (n : Nat) : Below a.heap.size a (a.drewN n) := below_drewN (Below.refl _ _) n
theorem run_text {P : Program} {w : World} {B : Nat} {A : Option Addr} {l c : Nat} {bs : List UInt8} (h : Sl w B A l c bs) (src dst e : TypeId) (hs : P.underlying src = some (.slice e)) (he : P.underlying e = some (.int .u8)) (hd : P.underlying dst = some .string) :
 (convert src dst (.slice A l c)).run P w = .ok (.string ⟨bs.toArray⟩) w := by
 obtain ⟨hr, hl, _⟩ := h; subst hl
 cases A with
 | none =>
   have hn : bs = [] := by
    rcases hr with h | ⟨_, h, _⟩
    · have := congrArg List.length h; rw [bvs_length] at this; exact List.eq_nil_of_length_eq_zero this
    · cases h
   subst hn; exact Lib.run_convert_nil_bytes w src dst e c hs he hd
 | some ad =>
   refine run_convert_bytes_back w src dst e ad c bs hs he hd fun j hj => ?_; rcases hr with h | ⟨ad', h, _, hc⟩
   · have := congrArg List.length h; rw [bvs_length] at this; simp at this; subst this; simp at hj
   · injection h with h; subst h; exact hc j _ (bvs_get bs j hj)
def Fresh (n : Nat) (A : Option Addr) : Prop := ∀ ad, A = some ad → n ≤ ad.block
theorem own_fresh {w : World} {base n c s : Nat} {A : Option Addr} {e : TypeId} {xs : List Value} (h : w.ownsRow base e s (.slice A n c) n xs) : Fresh base A := by
 intro ad hA; rcases h.2 with ⟨h1, _⟩ | ⟨g, cap, cur, h1, h2, _⟩
 · injection h1 with h1; rw [h1] at hA; cases hA
 · injection h1 with h1; rw [h1] at hA; injection hA with hA; subst hA; exact h2
section
variable {P : Program} {w : World}
theorem run_append_nothing (base : Nat) (t ty e : TypeId) (i : TypeInfo) (ht : P.underlying t = some (.slice e)) (hi : P.info? e = some i)
 (v : Value) (n c : Nat) (xs : List Value) (hown : w.ownsRow base e 1 v n xs) : (Builtin.append_ #[t, t] ty #[v, .slice none 0 c]).run P w = .ok v w := by
 rcases hown.2 with ⟨rfl, rfl⟩ | ⟨g, cap, cur, rfl, _, _, hnc, _⟩
 · simp [Builtin.append_, run_underlying ht, sizeOf, typeInfo, hi, Builtin.lenOf, Builtin.firstCells]
 · simp [Builtin.append_, run_underlying ht, sizeOf, typeInfo, hi, Builtin.lenOf, Builtin.firstCells, hnc, storeCells]
theorem run_append_rd (base : Nat) (t ty e : TypeId) (i : TypeInfo) (z : Value) (bytes : Nat) (ht : P.underlying t = some (.slice e)) (hi : P.info? e = some i) (hz : i.zero = some z)
 (hsize : i.size = 1) (hby : i.bytes = bytes) (hzs : z.cells.size = 1)
 (v : Value) (n : Nat) (xs : List Value) (hown : w.ownsRow base e 1 v n xs)
 (B : Nat) (A : Option Addr) (m c : Nat) (news : List Value) (hm : news.length = m) (hr : Rd w B A news) (h1 : ∀ u ∈ news, u.oneCell' = true)
 (h63 : n + m ≤ maxLen) (hbytes : (n + m) * bytes ≤ 140737488355328) (hbase : base ≤ w.heap.size) :
 ∃ v' w', (Builtin.append_ #[t, t] ty #[v, .slice A m c]).run P w = .ok v' w' ∧ w'.ownsRow base e 1 v' (n + m) (xs ++ news) ∧ w.grownBy w' v.ownBlock := by
 cases A with
 | none =>
   have hn : news = [] := by
    rcases hr with h | ⟨_, h, _⟩
    · exact h
    · cases h
   subst hn; obtain rfl : m = 0 := by simpa using hm.symm
   exact ⟨v, w, run_append_nothing base t ty e i ht hi v n c xs hown, by simpa using hown, World.grownBy.refl w _⟩
 | some ad =>
   have hc : ∀ j u, news[j]? = some u → w.cell? (ad.add j) = some u := by
    intro j u hu; rcases hr with h | ⟨ad', h, _, hc⟩
    · subst h; simp at hu
    · injection h with h; subst h; exact hc j u hu
   obtain ⟨v', w', hrun, h2, h3, _⟩ := run_append_own (P := P) w base t ty e i z 1 bytes ht hi hz hsize hby hzs (by decide) v n xs hown ad m c news (by omega) hc h1 h63 hbytes hbase; exact ⟨v', w', hrun, h2, h3⟩
theorem wp_append_rd {o : Oper} {a : Act} {K : Act → World → Prop} {Q : Exit → Act → World → Prop} (s x : Operand) (t : TypeId)
 (ho : o.op = .call { callee := .builtin .append, args := #[s, x], argTypes := #[t, t] })
 (base : Nat) (e : TypeId) (i : TypeInfo) (z : Value) (bytes : Nat) (ht : P.underlying t = some (.slice e)) (hi : P.info? e = some i) (hz : i.zero = some z)
 (hsize : i.size = 1) (hby : i.bytes = bytes) (hzs : z.cells.size = 1)
 (v : Value) (n : Nat) (xs : List Value) (hs : a.eval s = v) (hown : w.ownsRow base e 1 v n xs)
 (B : Nat) (A : Option Addr) (m c : Nat) (news : List Value) (hx : a.eval x = .slice A m c) (hm : news.length = m) (hr : Rd w B A news) (h1 : ∀ u ∈ news, u.oneCell' = true)
 (h63 : n + m ≤ maxLen) (hbytes : (n + m) * bytes ≤ 140737488355328) (hbase : base ≤ w.heap.size)
 (h : ∀ v' w', w'.ownsRow base e 1 v' (n + m) (xs ++ news) → w.grownBy w' v.ownBlock → K (a.put o.dst v') w') : o.wp P a w K Q := by
 obtain ⟨v', w', hrun, h2, h3⟩ := run_append_rd (P := P) base t o.type e i z bytes ht hi hz hsize hby hzs v n xs hown B A m c news hm hr h1 h63 hbytes hbase; unfold Oper.wp execOp; simp only [ho, resolve, invoke, builtin, Sem.run_bind, Sem.run_pure, Result.andThen_ok, List.map_toArray, List.map_cons, List.map_nil, hs, hx, hrun]; exact h v' w' h2 h3
theorem wpList_append_rd {ops : Array Oper} {rest : List Oper} {o : Oper} {a : Act} {Q : Exit → Act → World → Prop} (hw : Region.wanted o (yielded ops a.tmps) = true) (s x : Operand) (t : TypeId)
 (ho : o.op = .call { callee := .builtin .append, args := #[s, x], argTypes := #[t, t] })
 (base : Nat) (e : TypeId) (i : TypeInfo) (z : Value) (bytes : Nat) (ht : P.underlying t = some (.slice e)) (hi : P.info? e = some i) (hz : i.zero = some z)
 (hsize : i.size = 1) (hby : i.bytes = bytes) (hzs : z.cells.size = 1)
 (v : Value) (n : Nat) (xs : List Value) (hs : a.eval s = v) (hown : w.ownsRow base e 1 v n xs)
 (B : Nat) (A : Option Addr) (m c : Nat) (news : List Value) (hx : a.eval x = .slice A m c) (hm : news.length = m) (hr : Rd w B A news) (h1 : ∀ u ∈ news, u.oneCell' = true)
 (h63 : n + m ≤ maxLen) (hbytes : (n + m) * bytes ≤ 140737488355328) (hbase : base ≤ w.heap.size)
 (h : ∀ v' w', w'.ownsRow base e 1 v' (n + m) (xs ++ news) → w.grownBy w' v.ownBlock → wpList P ops Q rest (a.put o.dst v') w') : wpList P ops Q (o :: rest) a w :=
 wpList_step fun _ hK => by
  rw [if_pos hw]; exact wp_append_rd s x t ho base e i z bytes ht hi hz hsize hby hzs v n xs hs hown B A m c news hx hm hr h1 h63 hbytes hbase fun v' w' h2 h3 => hK _ _ (h v' w' h2 h3)
theorem step_append_rd {ops : Array Oper} {o : Oper} {a : Act} {K : Act → World → Prop} {Q : Exit → Act → World → Prop} {E : Prop} (hw : Region.wanted o (yielded ops a.tmps) = true) (s x : Operand) (t : TypeId)
 (ho : o.op = .call { callee := .builtin .append, args := #[s, x], argTypes := #[t, t] })
 (base : Nat) (e : TypeId) (i : TypeInfo) (z : Value) (bytes : Nat) (ht : P.underlying t = some (.slice e)) (hi : P.info? e = some i) (hz : i.zero = some z)
 (hsize : i.size = 1) (hby : i.bytes = bytes) (hzs : z.cells.size = 1)
 (v : Value) (n : Nat) (xs : List Value) (hs : a.eval s = v) (hown : w.ownsRow base e 1 v n xs)
 (B : Nat) (A : Option Addr) (m c : Nat) (news : List Value) (hx : a.eval x = .slice A m c) (hm : news.length = m) (hr : Rd w B A news) (h1 : ∀ u ∈ news, u.oneCell' = true)
 (h63 : n + m ≤ maxLen) (hbytes : (n + m) * bytes ≤ 140737488355328) (hbase : base ≤ w.heap.size)
 (h : ∀ v' w', w'.ownsRow base e 1 v' (n + m) (xs ++ news) → w.grownBy w' v.ownBlock → K (a.put o.dst v') w') :
 if Region.wanted o (yielded ops a.tmps) = true then Oper.wp P o a w K Q else E := by
 rw [if_pos hw]; exact wp_append_rd s x t ho base e i z bytes ht hi hz hsize hby hzs v n xs hs hown B A m c news hx hm hr h1 h63 hbytes hbase h
end
theorem results_cell1 {fn : Func} {p : Tmp} {ty : TypeId} (h : fn.results = #[.cell p ty]) (tmps : Array Value) (P : Program) (w : World) :
 (results fn tmps).run P w = ((asAddr (tmps.getD p undef)).run P w).andThen fun a w₁ => (loadVar ty a).run P w₁ := by
 simp only [results, h]; simp [Sem.run_bind, Result.andThen]
end

/- What tokens a text has: plain functions of lists of bytes (no function of the program is named here). -/
section
open Go.RowKit
def blankF (c : UInt8) : Bool := c == 32 || c == 9 || c == 10 || c == 13
def digitF (c : UInt8) : Bool := decide (48 ≤ c.toNat) && decide (c.toNat ≤ 57)
def letterF (c : UInt8) : Bool := decide (65 ≤ c.toNat) && decide (c.toNat ≤ 90) || decide (97 ≤ c.toNat) && decide (c.toNat ≤ 122) || decide (c.toNat = 95)
def lodF (c : UInt8) : Bool := letterF c || digitF c
def signF (c : UInt8) : Bool := !(decide (c.toNat ≤ 32) || decide (126 < c.toNat) || lodF c) && (decide (c.toNat ≠ 34) && decide (c.toNat ≠ 96) && decide (c.toNat ≠ 39) && decide (c.toNat ≠ 35))
def upF (c : UInt8) : UInt8 := if 97 ≤ c.toNat ∧ c.toNat ≤ 122 then c - 32 else c
def greatF (l : List UInt8) : List UInt8 := l.map upF
def runF (p : UInt8 → Bool) : List UInt8 → Nat
 | [] => 0
 | c :: r => if p c then runF p r + 1 else 0
theorem runF_le (p : UInt8 → Bool) : ∀ l, runF p l ≤ l.length
 | [] => Nat.le_refl _
 | c :: r => by
   have := runF_le p r; unfold runF; split <;> simp <;> omega
theorem runF_drop (p : UInt8 → Bool) : ∀ (l : List UInt8) (k : Nat), (∀ j (h : j < l.length), j < k → p l[j] = true) → k ≤ l.length → runF p l = k + runF p (l.drop k)
 | l, 0, _, _ => by simp
 | [], k + 1, _, h => by simp at h
 | c :: r, k + 1, h, hk => by
   have h0 : p c = true := h 0 (by simp) (by omega); have := runF_drop p r k (fun j hj hjk => h (j + 1) (by simpa using hj) (by omega)) (by simpa using hk); rw [runF, if_pos h0, this, List.drop_succ_cons]; omega
theorem runF_all (p : UInt8 → Bool) : ∀ (l : List UInt8), ∀ c ∈ l.take (runF p l), p c = true
 | [], c, h => by simp at h
 | a :: r, c, h => by
   unfold runF at h; split at h
   · rename_i ha
     rw [List.take_succ_cons] at h; rcases List.mem_cons.1 h with rfl | h
     · exact ha
     · exact runF_all p r c h
   · simp at h
theorem runF_none {p : UInt8 → Bool} {c : UInt8} {r : List UInt8} (h : p c = false) : runF p (c :: r) = 0 := by unfold runF; simp [h]
theorem runF_some {p : UInt8 → Bool} {c : UInt8} {r : List UInt8} (h : p c = true) : runF p (c :: r) = runF p r + 1 := by rw [runF, if_pos h]
def quotedF (q : UInt8) : List UInt8 → Option (List UInt8 × Nat)
 | [] => none
 | [b] => if b = q then some ([], 1) else none
 | b :: d :: r => if b = q then (if d = q then (quotedF q r).map fun x => (q :: x.1, x.2 + 2) else some ([], 1)) else (quotedF q (d :: r)).map fun x => (b :: x.1, x.2 + 1)
theorem quotedF_other {q b : UInt8} {r : List UInt8} (h : b ≠ q) : quotedF q (b :: r) = (quotedF q r).map fun x => (b :: x.1, x.2 + 1) := by
 cases r with
 | nil => simp [quotedF, h]
 | cons d r => rw [quotedF]; simp [h]
theorem quotedF_twice {q : UInt8} {r : List UInt8} : quotedF q (q :: q :: r) = (quotedF q r).map fun x => (q :: x.1, x.2 + 2) := by rw [quotedF]; simp
theorem quotedF_ends {q : UInt8} {r : List UInt8} (h : r[0]? ≠ some q) : quotedF q (q :: r) = some ([], 1) := by
 cases r with
 | nil => simp [quotedF]
 | cons d r => rw [quotedF]; simp at h; simp [h]
theorem quotedF_le {q : UInt8} : ∀ {l : List UInt8} {x : List UInt8 × Nat}, quotedF q l = some x → 1 ≤ x.2 ∧ x.2 ≤ l.length ∧ x.1.length + 1 ≤ x.2
 | [], x, h => by simp [quotedF] at h
 | [b], x, h => by
   rw [quotedF] at h; split at h
   · simp at h; subst h; simp
   · simp at h
 | b :: d :: r, x, h => by
   rw [quotedF] at h; split at h
   · split at h
     · obtain ⟨y, hy, rfl⟩ := Option.map_eq_some_iff.1 h; have := quotedF_le hy; simp; omega
     · simp at h; subst h; simp
   · obtain ⟨y, hy, rfl⟩ := Option.map_eq_some_iff.1 h; have := quotedF_le hy; simp at this ⊢; omega
def ends2 : List UInt8 := [42, 47]
def closedF (l : List UInt8) (o : Nat) : Nat := if Lib.index (l.drop o) ends2 < 0 then 0 else o + (Lib.index (l.drop o) ends2).toNat + 2
def blanks4 : List UInt8 := [32, 9, 10, 13]
def trimF (l : List UInt8) : List UInt8 := Lib.trimS l blanks4
def begF (p l : List UInt8) : Bool := Lib.hasPrefix l p
def firstF : List UInt8 → Option (Nat × List UInt8 × Nat)
 | [] => none
 | c :: r =>
   if letterF c then some (1, greatF ((c :: r).take (runF lodF (c :: r))), runF lodF (c :: r))
   else if digitF c then some (4, (c :: r).take (runF digitF (c :: r)), runF digitF (c :: r))
   else if c.toNat = 34 ∨ c.toNat = 96 then (quotedF c r).map fun x => (2, x.1, x.2 + 1)
   else if c.toNat = 39 then (quotedF c r).map fun x => (3, x.1, x.2 + 1)
   else if begF [47, 42, 43] (c :: r) then (if closedF (c :: r) 3 = 0 then none else some (5, trimF (((c :: r).take (closedF (c :: r) 3 - 2)).drop 3), closedF (c :: r) 3))
   else if signF c then some (6, [c], 1)
   else none
inductive Step where
 | bad
 | skip (n : Nat)
 | tok (k : Nat) (t : List UInt8) (n : Nat)
def lineF (l : List UInt8) : Nat := if Lib.indexByte l 10 < 0 then l.length else (Lib.indexByte l 10).toNat
def isLineF : List UInt8 → Bool
 | [] => false
 | c :: r => decide (c.toNat = 35) || begF [45, 45] (c :: r)
def isRemarkF (l : List UInt8) : Bool := begF [47, 42] l && !begF [47, 42, 43] l
def stepF : List UInt8 → Step
 | [] => .bad
 | c :: r =>
   if blankF c then .skip 1
   else if isLineF (c :: r) then .skip (lineF (c :: r))
   else if isRemarkF (c :: r) then (if closedF (c :: r) 2 = 0 then .bad else .skip (closedF (c :: r) 2))
   else match firstF (c :: r) with
    | none => .bad
    | some (k, t, n) => .tok k t n
def lexF (l : List UInt8) : Option (List (Int × List UInt8)) :=
 if _h : l = [] then some []
 else match stepF l with
  | .bad => none
  | .skip n => if _hn : n = 0 then none else lexF (l.drop n)
  | .tok k t n => if _hn : n = 0 then none else (lexF (l.drop n)).map (((k : Int), t) :: ·)
termination_by l.length
decreasing_by
 all_goals
  rw [List.length_drop]; have : 0 < l.length := List.length_pos_iff.2 _h; omega
theorem lexF_nil : lexF [] = some [] := by rw [lexF]; simp
theorem lexF_bad {l : List UInt8} (h : l ≠ []) (hs : stepF l = .bad) : lexF l = none := by rw [lexF, dif_neg h, hs]
theorem lexF_skip {l : List UInt8} {n : Nat} (h : l ≠ []) (hs : stepF l = .skip n) (hn : n ≠ 0) : lexF l = lexF (l.drop n) := by rw [lexF, dif_neg h, hs]; simp [hn]
theorem lexF_tok {l : List UInt8} {n k : Nat} {t : List UInt8} (h : l ≠ []) (hs : stepF l = .tok k t n) (hn : n ≠ 0) : lexF l = (lexF (l.drop n)).map (((k : Int), t) :: ·) := by rw [lexF, dif_neg h, hs]; simp [hn]
theorem index_room {s sub : List UInt8} (h : 0 ≤ Lib.index s sub) (hs : sub ≠ []) : (Lib.index s sub).toNat + sub.length ≤ s.length := by
 induction s with
 | nil =>
   unfold Lib.index at h
   cases sub with
   | nil => exact absurd rfl hs
   | cons a t => simp at h
 | cons b l ih =>
   unfold Lib.index at h ⊢; by_cases hp : sub.isPrefixOf (b :: l) = true
   · rw [if_pos hp]; have := (List.isPrefixOf_iff_prefix.1 hp).length_le; simpa using this
   · rw [if_neg hp] at h ⊢; by_cases hm : (Lib.index l sub == -1) = true
     · rw [if_pos hm] at h; omega
     · rw [if_neg hm] at h ⊢; have hge := Lib.index_ge l sub; have hne : Lib.index l sub ≠ -1 := by simpa using hm
       have := ih (by omega); simp; omega
theorem closedF_le (l : List UInt8) (o : Nat) (ho : o ≤ l.length) : closedF l o ≤ l.length ∧ (closedF l o ≠ 0 → o + 2 ≤ closedF l o) := by
 unfold closedF; split
 · exact ⟨Nat.zero_le _, fun h => absurd rfl h⟩
 · have := index_room (s := l.drop o) (sub := ends2) (by omega) (by decide); rw [List.length_drop, show ends2.length = 2 from rfl] at this; exact ⟨by omega, fun _ => by omega⟩
theorem indexByte_lt : ∀ {l : List UInt8} {c : UInt8}, 0 ≤ Lib.indexByte l c → (Lib.indexByte l c).toNat < l.length
 | [], c, h => by simp [Lib.indexByte] at h
 | b :: l, c, h => by
   unfold Lib.indexByte at h ⊢; by_cases hb : (b == c) = true
   · rw [if_pos hb]; simp
   · rw [if_neg hb] at h ⊢; by_cases hm : (Lib.indexByte l c == -1) = true
     · rw [if_pos hm] at h; omega
     · rw [if_neg hm] at h ⊢; have hne : Lib.indexByte l c ≠ -1 := by simpa using hm
       have hge := indexByte_ge1 l c; have := indexByte_lt (l := l) (c := c) (by omega); simp; omega
where
 indexByte_ge1 (l : List UInt8) (c : UInt8) : -1 ≤ Lib.indexByte l c := by
  induction l with
  | nil => exact Int.le_refl _
  | cons b l ih =>
    unfold Lib.indexByte; split
    · decide
    · split
      · decide
      · omega
end

/- The library's contracts in these texts' own words: a builder's bytes as a list, texts as lists of bytes. -/
section
open Go.RowKit
set_option maxRecDepth 100000
theorem text_len (s : ByteArray) : s.data.toList.length = s.size := by rw [Array.length_toList]; rfl
theorem text_ext {s t : ByteArray} (h : s.data.toList = t.data.toList) : s = t := by
 cases s; cases t; simp only [ByteArray.mk.injEq]; exact Array.toList_inj.1 h
theorem text_cut (s : ByteArray) (a b : Nat) : (s.extract a b).data.toList = (s.data.toList.drop a).take (b - a) := by
 rw [ByteArray.data_extract]; simp
theorem text_rest (s : ByteArray) (a : Nat) : (s.extract a s.size).data.toList = s.data.toList.drop a := by
 rw [text_cut, List.take_of_length_le]; rw [List.length_drop, text_len]; exact Nat.le_refl _
theorem text_front (s : ByteArray) (b : Nat) : (s.extract 0 b).data.toList = s.data.toList.take b := by
 rw [text_cut]; simp
theorem text_at (s : ByteArray) (i : Nat) (h : i < s.size) : s[i] = s.data.toList[i]'(by rw [text_len]; exact h) := by
 rw [Array.getElem_toList]; rfl
def Lw (w : World) : Prop := ∃ m : Int, w.cell? ⟨0, 0, none⟩ = some (.int .i64 m)
theorem Lw.next {w w' : World} (h : Lw w) (hb : Below w.heap.size w w') : Lw w' := by
 obtain ⟨m, hm⟩ := h; exact ⟨m, (hb.cell (World.block_lt_of_cell? _ _ hm)).trans hm⟩
theorem Lw.below {w w' : World} {B : Nat} (h : Lw w) (hb : Below B w w') (hB : 0 < B) : Lw w' := by
 obtain ⟨m, hm⟩ := h; exact ⟨m, (hb.cell hB).trans hm⟩
theorem indexByte_s (s : ByteArray) (c : UInt8) (w : World) : Calls Tryz.prog 68 #[.string s, .int .u8 (c.toNat : Int)] w fun e w' => e = .returned (.int .i64 (Lib.indexByte s.data.toList c)) ∧ w' = w := by
 have h := Tryz.strings_IndexByte s (c.toNat : Int) w; have e : (c.toNat : Int).toNat.toUInt8 = c := by simp
 rw [e] at h; exact h
theorem index_s (s sub : ByteArray) (w : World) (hL : Lw w) (hs : s.size ≤ 1000000) : Calls Tryz.prog 94 #[.string s, .string sub] w fun e w' => e = .returned (.int .i64 (Lib.index s.data.toList sub.data.toList)) ∧ w' = w := by
 obtain ⟨m, hm⟩ := hL; exact Tryz.strings_Index s sub m w (by omega) hm
theorem hasPrefix_s (s p : ByteArray) (w : World) : Calls Tryz.prog 92 #[.string s, .string p] w fun e w' => e = .returned (.bool (begF p.data.toList s.data.toList)) ∧ w' = w := Tryz.strings_HasPrefix s p w
theorem trim_s (s : ByteArray) (w : World) (hs : s.size ≤ 1000000) : Calls Tryz.prog 122 #[.string s, .string ⟨#[32, 9, 10, 13]⟩] w fun e w' => ∃ r : ByteArray, e = .returned (.string r) ∧ r.data.toList = trimF s.data.toList ∧ Below w.heap.size w w' := by
 have h := Any.strings_Trim_laid Tryz.lays160 (by kernel_rfl) s ⟨#[32, 9, 10, 13]⟩ w (by omega) (by decide) (ascii_of_all (by decide)); change Calls Tryz.prog 122 _ _ _ at h; exact h.mono fun _ _ ⟨he, hb⟩ => ⟨_, he, by simp [trimF, blanks4], hb⟩
def Bd (B b : Nat) (l : List UInt8) (w : World) : Prop := Lib.IsBuilderF 195 5 B b (Lib.byteCells l) w
def Kept (b : Nat) (w w' : World) : Prop := Lib.OthersKept 5 (some b) w w'
theorem Bd.new (w : World) (B : Nat) (hB : B ≤ w.heap.size) : Bd B w.heap.size [] (w.alloc (.cells #[.pointer none, .slice none 0 0] 195)) := by
 have h := Lib.IsBuilderF.of (Lib.fresh_isBuilder 195 5 w); rcases h with ⟨_, v, hb, hown, hne⟩ | ⟨_, v, hb, hown, hne⟩
 · have hz := hown.1; refine .inl ⟨hB, v, hb, ⟨hz, ?_⟩, hne⟩; rcases hown.2 with h2 | ⟨g, cap, cur, fz, hv, hg, r⟩
   · exact .inl h2
   · exact .inr ⟨g, cap, cur, fz, hv, by omega, r⟩
 · have hz := hown.1; refine .inr ⟨hB, v, hb, ⟨hz, ?_⟩, hne⟩; rcases hown.2 with h2 | ⟨g, cap, cur, fz, hv, hg, r⟩
   · exact .inl h2
   · exact .inr ⟨g, cap, cur, fz, hv, by omega, r⟩
theorem Bd.alloc {B b : Nat} {l : List UInt8} {w : World} (h : Bd B b l w) (o : Obj) : Bd B b l (w.alloc o) := Lib.IsBuilderF.alloc h o
theorem writeByte_s (B b : Nat) (l : List UInt8) (c : UInt8) (w : World) (h : Bd B b l w) (hl : l.length ≤ 100000000) (hB : B ≤ w.heap.size) :
 Calls Tryz.prog 121 #[.pointer (some ⟨b, 0, none⟩), .int .u8 (c.toNat : Int)] w fun e w' => e = .returned .nilIface ∧ Bd B b (l ++ [c]) w' ∧ Below B w w' ∧ Kept b w w' := by
 have k := Any.Builder_WriteByte_k Tryz.blay167 Tryz.bextra B b (Lib.byteCells l) (c.toNat : Int) w h (by rw [Lib.byteCells_length]; omega) hB; change Calls Tryz.prog 121 _ _ _ at k; refine k.mono fun e w' ⟨he, h1, h2, h3⟩ => ⟨he, ?_, h2, h3⟩; unfold Bd; rw [Lib.byteCells_append]; exact .inr h1
theorem writeString_s (B b : Nat) (l : List UInt8) (s : ByteArray) (w : World) (h : Bd B b l w) (hl : l.length ≤ 100000000) (hs : s.size ≤ 100000000) (hB : B ≤ w.heap.size) :
 Calls Tryz.prog 217 #[.pointer (some ⟨b, 0, none⟩), .string s] w fun e w' => e = .returned (.tuple #[.int .i64 s.size, .nilIface]) ∧ Bd B b (l ++ s.data.toList) w' ∧ Below B w w' ∧ Kept b w w' := by
 have k := Any.Builder_WriteString_k Tryz.blay166 Tryz.bextra B b (Lib.byteCells l) s w h (by rw [Lib.byteCells_length]; omega) hB; change Calls Tryz.prog 217 _ _ _ at k; refine k.mono fun e w' ⟨he, h1, h2, h3⟩ => ⟨he, ?_, h2, h3⟩; unfold Bd; rw [Lib.byteCells_append]; exact .inr h1
theorem writeRune_s (B b : Nat) (l : List UInt8) (c : UInt8) (w : World) (h : Bd B b l w) (hl : l.length ≤ 100000000) (hc : c.toNat < 128) (hB : B ≤ w.heap.size) :
 Calls Tryz.prog 119 #[.pointer (some ⟨b, 0, none⟩), .int .i32 (c.toNat : Int)] w fun e w' => e = .returned (.tuple #[.int .i64 1, .nilIface]) ∧ Bd B b (l ++ [c]) w' ∧ Below B w w' ∧ Kept b w w' := by
 have k := Any.Builder_WriteRune_k Tryz.blay168 Tryz.bextra B b (Lib.byteCells l) (c.toNat : Int) (by omega) (by omega) w h (by rw [Lib.byteCells_length]; omega) hB; have e1 : Lib.runeCells (c.toNat : Int) = [.int .u8 (c.toNat : Int)] := by rw [Lib.runeCells, Lib.encodeRuneZ_one (by omega) (by omega)]; rfl
 rw [e1] at k; change Calls Tryz.prog 119 _ _ _ at k; refine k.mono fun e w' ⟨he, h1, h2, h3⟩ => ⟨he, ?_, h2, h3⟩; unfold Bd; rw [Lib.byteCells_append]; exact .inr h1
theorem string_s (B b : Nat) (l : List UInt8) (w : World) (h : Bd B b l w) (hB : B ≤ w.heap.size) :
 Calls Tryz.prog 120 #[.pointer (some ⟨b, 0, none⟩)] w fun e w' => ∃ r : ByteArray, e = .returned (.string r) ∧ r.data.toList = l ∧ Below B w w' := by
 have k := Any.Builder_String_any_k { Tryz.lays155 with } Tryz.Builder_Extra_155 B b l w h hB; change Calls Tryz.prog 120 _ _ _ at k; exact k.mono fun e w' ⟨he, _, h2, _⟩ => ⟨_, he, by simp, h2⟩
end

/- What the small functions of package lex do: contracts. -/
section
open Go.RowKit
set_option maxRecDepth 100000
theorem by_all (p : UInt8 → Bool) (h : ∀ n : Fin 256, p (UInt8.ofNat n.val) = true) (c : UInt8) : p c = true := by
 have := h ⟨c.toNat, c.toNat_lt⟩; simpa using this
theorem ret_bool {a b : Bool} (h : a = b) : Ending.returned (.bool a) = .returned (.bool b) := by rw [h]
theorem isBlank_ok (c : UInt8) (w : World) : Calls Tryz.prog 66 #[.int .u8 (c.toNat : Int)] w fun e w' => e = .returned (.bool (blankF c)) ∧ w = w' := by
 have hF : decide (0 ≤ Lib.indexByte [32, 9, 10, 13] c) = blankF c := by
  have := by_all (fun c => decide (0 ≤ Lib.indexByte [32, 9, 10, 13] c) == blankF c) (by decide +kernel) c; simpa using this
 have HF := hid hF; clear hF; go_enter Tryz.func66, Tryz.ntmps66; go_wp2_with (go_at_call 68; refine (indexByte_s _ c w).mono ?_; rintro e w' ⟨rfl, rfl⟩); go_ret; refine ⟨?_, rfl⟩; rw [← HF.out]; rfl
theorem isDigit_ok (c : UInt8) (w : World) : Calls Tryz.prog 99 #[.int .u8 (c.toNat : Int)] w fun e w' => e = .returned (.bool (digitF c)) ∧ w = w' := by
 have hF : digitF c = (decide (48 ≤ c.toNat) && decide (c.toNat ≤ 57)) := rfl; have HF := hid hF; clear hF; go_enter Tryz.func99, Tryz.ntmps99
 go_wp2
 all_goals
  go_ret; refine ⟨ret_bool ?_, rfl⟩; rw [HF.out, Bool.eq_iff_iff]; simp
  try omega
theorem isLetter_ok (c : UInt8) (w : World) : Calls Tryz.prog 95 #[.int .u8 (c.toNat : Int)] w fun e w' => e = .returned (.bool (letterF c)) ∧ w = w' := by
 have hF : letterF c = (decide (65 ≤ c.toNat) && decide (c.toNat ≤ 90) || decide (97 ≤ c.toNat) && decide (c.toNat ≤ 122) || decide (c.toNat = 95)) := rfl; have HF := hid hF; clear hF; go_enter Tryz.func95, Tryz.ntmps95
 go_wp2
 all_goals
  go_ret; refine ⟨ret_bool ?_, rfl⟩; rw [HF.out, Bool.eq_iff_iff]; simp
  try omega
theorem isLetterOrDigit_ok (c : UInt8) (w : World) : Calls Tryz.prog 97 #[.int .u8 (c.toNat : Int)] w fun e w' => e = .returned (.bool (lodF c)) ∧ w = w' := by
 have hF : lodF c = (letterF c || digitF c) := rfl; have HF := hid hF; clear hF; generalize hl : letterF c = a; generalize hd : digitF c = b; rw [hl, hd] at HF; have H1 := isLetter_ok c w; have H2 := isDigit_ok c w; rw [hl] at H1; rw [hd] at H2; clear hl hd; have H1 := hid H1; have H2 := hid H2; cases a <;> cases b
 all_goals
  go_enter Tryz.func97, Tryz.ntmps97
  go_wp2_with (first
   | (go_at_call 95; refine H1.out.mono ?_; rintro e w' ⟨rfl, rfl⟩)
   | (go_at_call 99; refine H2.out.mono ?_; rintro e w' ⟨rfl, rfl⟩))
  go_ret; exact ⟨by rw [HF.out]; rfl, rfl⟩
theorem isSign_ok (c : UInt8) (w : World) : Calls Tryz.prog 102 #[.int .u8 (c.toNat : Int)] w fun e w' => e = .returned (.bool (signF c)) ∧ w = w' := by
 have hF : signF c = (!(decide (c.toNat ≤ 32) || decide (126 < c.toNat) || lodF c) && (decide (c.toNat ≠ 34) && decide (c.toNat ≠ 96) && decide (c.toNat ≠ 39) && decide (c.toNat ≠ 35))) := rfl; generalize hl : lodF c = a; rw [hl] at hF; have HF := hid hF; have H1 := isLetterOrDigit_ok c w; rw [hl] at H1; clear hl hF; have H1 := hid H1; cases a
 all_goals
  go_enter Tryz.func102, Tryz.ntmps102; go_wp2_with (go_at_call 97; refine H1.out.mono ?_; rintro e w' ⟨rfl, rfl⟩)
 all_goals
  go_ret; refine ⟨ret_bool ?_, rfl⟩; rw [HF.out, Bool.eq_iff_iff]; simp
  try omega
end

/- How many bytes at the beginning of a text are such: contracts. -/
section
open Go.RowKit
set_option maxRecDepth 100000
set_option maxHeartbeats 400000 in
theorem run_lod_same (s : ByteArray) (w : World) (hs : s.size ≤ 1000000) : Calls Tryz.prog 96 #[.string s, .func (.func 97) #[] #[]] w fun e w' => e = .returned (.int .i64 (runF lodF s.data.toList : Int)) ∧ w' = w := by
 have hall : ∀ k, k ≤ s.size → (∀ j (h : j < s.data.toList.length), j < k → lodF s.data.toList[j] = true) → runF lodF s.data.toList = k + runF lodF (s.data.toList.drop k) := fun k hk h => runF_drop _ _ k h (by rw [text_len]; exact hk); generalize hR : runF lodF s.data.toList = R at *; have HA := hid hall; clear hall hR; go_enter Tryz.func96, Tryz.ntmps96
 go_wp2
 go_loopw [5] (fun n wr => ∃ k : Nat, k ≤ s.size ∧ n = .int .i64 k ∧ Hid (∀ j (h : j < s.data.toList.length), j < k → lodF s.data.toList[j] = true) ∧ wr = w) (fun n _ => s.size - (intOf n).toNat)
 case atStart => exact ⟨0, Nat.zero_le _, rfl, hid (fun j _ h => by omega), rfl⟩
 case round =>
  obtain ⟨k, hk, rfl, hin, rfl⟩ := hrel; by_cases hlt : k < s.size
  · have hb := text_at s k hlt; have hd : s.data.toList.drop k = s.data.toList[k]'(by rw [text_len]; exact hlt) :: s.data.toList.drop (k + 1) := List.drop_eq_getElem_cons _; generalize hc : s.data.toList[k]'(by rw [text_len]; exact hlt) = c at hb hd; have hp := isLetterOrDigit_ok c; have HD := hid hd; have HC := hid hc; clear hd hc; cases hpc : lodF c
    · rw [hpc] at hp; have HP := hid hp; clear hp; have hR : R = k := by rw [HA.out k hk hin.out, HD.out, runF_none hpc]; rfl
      subst hR; clear hpc; go_wp2_with fail; refine (HP.out _).mono ?_; rintro e w' ⟨rfl, rfl⟩; go_wp2_with fail; go_ret; exact ⟨rfl, rfl⟩
    · rw [hpc] at hp; have HP := hid hp
      have hin2 : Hid (∀ j (h : j < s.data.toList.length), j < k + 1 → lodF s.data.toList[j] = true) := hid (fun j h hj => by
       rcases Nat.lt_or_ge j k with h1 | h1
       · exact hin.out j h h1
       · obtain rfl : j = k := by omega
         rw [HC.out]; exact hpc)
      clear hp hpc; go_wp2_with fail; refine (HP.out _).mono ?_; rintro e w' ⟨rfl, rfl⟩; go_wp2_with fail; go_roundw
      case rel => exact ⟨k + 1, by omega, by go_num, hin2, trivial⟩
      case measure => simp [intOf]; omega
  · have hk' : k = s.size := by omega
    have hR : R = k := by rw [HA.out k hk hin.out, List.drop_eq_nil_of_le (by rw [text_len]; omega)]; rfl
    subst hR; go_wp2_with fail; go_ret; exact ⟨rfl, rfl⟩
set_option maxHeartbeats 400000 in
theorem run_digit_same (s : ByteArray) (w : World) (hs : s.size ≤ 1000000) : Calls Tryz.prog 96 #[.string s, .func (.func 99) #[] #[]] w fun e w' => e = .returned (.int .i64 (runF digitF s.data.toList : Int)) ∧ w' = w := by
 have hall : ∀ k, k ≤ s.size → (∀ j (h : j < s.data.toList.length), j < k → digitF s.data.toList[j] = true) → runF digitF s.data.toList = k + runF digitF (s.data.toList.drop k) := fun k hk h => runF_drop _ _ k h (by rw [text_len]; exact hk); generalize hR : runF digitF s.data.toList = R at *; have HA := hid hall; clear hall hR; go_enter Tryz.func96, Tryz.ntmps96
 go_wp2
 go_loopw [5] (fun n wr => ∃ k : Nat, k ≤ s.size ∧ n = .int .i64 k ∧ Hid (∀ j (h : j < s.data.toList.length), j < k → digitF s.data.toList[j] = true) ∧ wr = w) (fun n _ => s.size - (intOf n).toNat)
 case atStart => exact ⟨0, Nat.zero_le _, rfl, hid (fun j _ h => by omega), rfl⟩
 case round =>
  obtain ⟨k, hk, rfl, hin, rfl⟩ := hrel; by_cases hlt : k < s.size
  · have hb := text_at s k hlt; have hd : s.data.toList.drop k = s.data.toList[k]'(by rw [text_len]; exact hlt) :: s.data.toList.drop (k + 1) := List.drop_eq_getElem_cons _; generalize hc : s.data.toList[k]'(by rw [text_len]; exact hlt) = c at hb hd; have hp := isDigit_ok c; have HD := hid hd; have HC := hid hc; clear hd hc; cases hpc : digitF c
    · rw [hpc] at hp; have HP := hid hp; clear hp; have hR : R = k := by rw [HA.out k hk hin.out, HD.out, runF_none hpc]; rfl
      subst hR; clear hpc; go_wp2_with fail; refine (HP.out _).mono ?_; rintro e w' ⟨rfl, rfl⟩; go_wp2_with fail; go_ret; exact ⟨rfl, rfl⟩
    · rw [hpc] at hp; have HP := hid hp
      have hin2 : Hid (∀ j (h : j < s.data.toList.length), j < k + 1 → digitF s.data.toList[j] = true) := hid (fun j h hj => by
       rcases Nat.lt_or_ge j k with h1 | h1
       · exact hin.out j h h1
       · obtain rfl : j = k := by omega
         rw [HC.out]; exact hpc)
      clear hp hpc; go_wp2_with fail; refine (HP.out _).mono ?_; rintro e w' ⟨rfl, rfl⟩; go_wp2_with fail; go_roundw
      case rel => exact ⟨k + 1, by omega, by go_num, hin2, trivial⟩
      case measure => simp [intOf]; omega
  · have hk' : k = s.size := by omega
    have hR : R = k := by rw [HA.out k hk hin.out, List.drop_eq_nil_of_le (by rw [text_len]; omega)]; rfl
    subst hR; go_wp2_with fail; go_ret; exact ⟨rfl, rfl⟩
theorem run_lod (s : ByteArray) (w : World) (hs : s.size ≤ 1000000) : Calls Tryz.prog 96 #[.string s, .func (.func 97) #[] #[]] w fun e w' => e = .returned (.int .i64 (runF lodF s.data.toList : Int)) ∧ Below w.heap.size w w' :=
 (run_lod_same s w hs).mono fun _ _ ⟨he, hw⟩ => ⟨he, hw ▸ Below.refl _ _⟩
theorem run_digit (s : ByteArray) (w : World) (hs : s.size ≤ 1000000) : Calls Tryz.prog 96 #[.string s, .func (.func 99) #[] #[]] w fun e w' => e = .returned (.int .i64 (runF digitF s.data.toList : Int)) ∧ Below w.heap.size w w' :=
 (run_digit_same s w hs).mono fun _ _ ⟨he, hw⟩ => ⟨he, hw ▸ Below.refl _ _⟩
end

/- A word with great letters; where a remark, or a hint, ends; what begins a remark: contracts. -/
section
open Go.RowKit
set_option maxRecDepth 100000
theorem up_byte (c : UInt8) (h1 : 97 ≤ c.toNat) (h2 : c.toNat ≤ 122) : ((upF c).toNat : Int) = (c.toNat : Int) + -32 := by
 have : ((c - 32).toNat : Int) = (c.toNat : Int) + -32 := by
  have h3 : (32 : UInt8) ≤ c := by rw [UInt8.le_iff_toNat_le]; simp; omega
  rw [UInt8.toNat_sub_of_le _ _ h3]; simp; omega
 unfold upF; rw [if_pos ⟨h1, h2⟩]; exact this
theorem up_same (c : UInt8) (h : ¬ (97 ≤ c.toNat ∧ c.toNat ≤ 122)) : upF c = c := by unfold upF; rw [if_neg h]
theorem up_lt (c : UInt8) (h : c.toNat < 128) : (upF c).toNat < 128 := by
 by_cases h1 : 97 ≤ c.toNat ∧ c.toNat ≤ 122
 · have := up_byte c h1.1 h1.2; omega
 · rw [up_same c h1]; exact h
theorem drop_take_map (f : UInt8 → UInt8) (l : List UInt8) (k : Nat) (h : k < l.length) : (l.take (k + 1)).map f = (l.take k).map f ++ [f l[k]] := by
 rw [List.take_succ_eq_append_getElem h, List.map_append]; rfl
set_option maxHeartbeats 1000000 in
theorem great_ok (s : ByteArray) (w : World) (hs : s.size ≤ 1000000) (ha : ∀ c ∈ s.data.toList, c.toNat < 128) : Calls Tryz.prog 98 #[.string s] w fun e w' => ∃ r : ByteArray, e = .returned (.string r) ∧ r.data.toList = greatF s.data.toList ∧ Below w.heap.size w w' := by
 have HA := hid ha; clear ha; have hlen := hid (text_len s); go_enter Tryz.func98, Tryz.ntmps98
 go_wp2
 go_loopw [] (fun wr => ∃ (pos : Nat), pos ≤ s.size ∧ Bd w.heap.size w.heap.size ((s.data.toList.take pos).map upF) wr ∧ wr.heap[w.heap.size + 1]? = some (.stringIter s pos) ∧ Below w.heap.size w wr) (fun wr => s.size - wr.iterPos (w.heap.size + 1))
 case atStart =>
  refine ⟨0, Nat.zero_le _, (Bd.new w w.heap.size (Nat.le_refl _)).alloc _, ?_, ((Below.refl _ w).alloc (Nat.le_refl _) _).alloc (by simp) _⟩; have := World.iter_heap (w.alloc (.cells #[.pointer none, .slice none 0 0] 195)) s 0; simpa using this
 case round =>
  obtain ⟨pos, hle, hI, hit, hbw⟩ := hrel; have hsz : w.heap.size + 1 < wr.heap.size := (Array.getElem?_eq_some_iff.1 hit).1; by_cases hp : pos < s.size
  · have hpl : pos < s.data.toList.length := by rw [hlen.out]; exact hp
    have hb := text_at s pos hp; have hmem := HA.out (s.data.toList[pos]) (List.getElem_mem _); have hnext := hid (drop_take_map upF s.data.toList pos hpl); have hll : ((s.data.toList.take pos).map upF).length ≤ 1000000 := by rw [List.length_map, List.length_take]; omega
    generalize hc : s.data.toList[pos] = c at hb hmem hnext; have hnx0 := fun ty => Lib.run_next_ascii_at (P := Tryz.prog) wr (w.heap.size + 1) s pos ty hit hp (by rw [hb]; exact hmem); rw [hb] at hnx0; have hI2 := hI.iterAt hit (pos + 1); have hit2 := Lib.iterAt_heap wr (w.heap.size + 1) s pos (pos + 1) hit; have hbw2 := Lib.below_iterAt hbw (k := w.heap.size + 1) (by omega) s (pos + 1); have hsz2 : w.heap.size ≤ (wr.iterAt (w.heap.size + 1) s (pos + 1)).heap.size := by rw [Lib.iterAt_size]; omega
    have hW := fun d (hd : d.toNat < 128) => writeRune_s w.heap.size w.heap.size _ d _ hI2 (by omega) hd hsz2; have HW := hid hW; clear hW hI hI2 hc hb; by_cases hlow : 97 ≤ c.toNat ∧ c.toNat ≤ 122
    · obtain ⟨h1, h2⟩ := hlow; have hu := up_byte c h1 h2; have hlt := up_lt c hmem; have HU := hid hu; clear hu; have HL := hid (And.intro h1 h2); have hW1 := HW.out (upF c) hlt; rw [HU.out] at hW1; have HW1 := hid hW1; clear hW1; go_wp2_with fail; refine HW1.out.mono ?_; rintro e W1 ⟨rfl, h1, b1, k1⟩; go_wp2_with fail; go_roundw
      case rel =>
       exact ⟨pos + 1, by omega, by rw [hnext.out]; exact h1, k1.iter hit2 (by omega), hbw2.trans b1⟩
      case measure =>
       simp only [World.iterPos, k1.iter hit2 (by omega), hit]; omega
    · have hW1 := HW.out c hmem; rw [up_same c hlow] at hnext; have HW1 := hid hW1; clear hW1; go_wp2_with fail
      all_goals
       refine HW1.out.mono ?_; rintro e W1 ⟨rfl, h1, b1, k1⟩; go_wp2_with fail; go_roundw
       case rel =>
        exact ⟨pos + 1, by omega, by rw [hnext.out]; exact h1, k1.iter hit2 (by omega), hbw2.trans b1⟩
       case measure =>
        simp only [World.iterPos, k1.iter hit2 (by omega), hit]; omega
  · have hnx : ∀ ty, (Instr.next (.pointer (some ⟨w.heap.size + 1, 0, none⟩)) true ty).run Tryz.prog wr = _ := fun ty => Lib.run_next_end_at wr (w.heap.size + 1) s pos ty hit hp; obtain rfl : pos = s.size := by omega
    have hS := string_s w.heap.size w.heap.size _ wr hI (by omega); rw [List.take_of_length_le (by rw [hlen.out]; exact Nat.le_refl _)] at hS; have HS := hid hS; clear hS; go_wp2_with fail; refine HS.out.mono ?_; rintro e W1 ⟨r, rfl, hr, b1⟩; go_wp2_with fail; go_ret; exact ⟨r, rfl, hr, hbw.trans b1⟩
set_option maxHeartbeats 400000 in
theorem closedSize_ok (s : ByteArray) (o : Nat) (w : World) (hs : s.size ≤ 1000000) (ho : o ≤ s.size) (hL : Lw w) : Calls Tryz.prog 70 #[.string s, .int .i64 (o : Int)] w fun e w' => e = .returned (.int .i64 (closedF s.data.toList o : Int)) ∧ w = w' := by
 have hi := index_s (s.extract o s.size) ⟨#[42, 47]⟩ w hL (by rw [ByteArray.size_extract]; omega); rw [text_rest] at hi
 have hr : 0 ≤ Lib.index (s.data.toList.drop o) ends2 → (Lib.index (s.data.toList.drop o) ends2).toNat + 2 ≤ s.size - o := fun h => by
  have := index_room h (by decide); rw [List.length_drop, text_len] at this; exact this
 have hF : closedF s.data.toList o = if Lib.index (s.data.toList.drop o) ends2 < 0 then 0 else o + (Lib.index (s.data.toList.drop o) ends2).toNat + 2 := rfl; have hge := Lib.index_ge (s.data.toList.drop o) ends2; rw [show (⟨#[42, 47]⟩ : ByteArray).data.toList = ends2 from rfl] at hi; generalize Lib.index (s.data.toList.drop o) ends2 = x at hi hr hF hge; have HI := hid hi; have HR := hid hr; have HF := hid hF; clear hi hr hF; by_cases h0 : x < 0
 · have hx : x = -1 := by omega
   rw [if_pos h0] at HF; go_enter Tryz.func70, Tryz.ntmps70; go_wp2_with (go_at_call 94; refine HI.out.mono ?_; rintro e w' ⟨rfl, rfl⟩); go_ret; exact ⟨by rw [HF.out]; rfl, rfl⟩
 · have hr2 := HR.out (by omega); obtain ⟨k, rfl⟩ : ∃ k : Nat, x = k := ⟨x.toNat, by omega⟩; rw [if_neg h0, Int.toNat_natCast] at HF; rw [Int.toNat_natCast] at hr2; go_enter Tryz.func70, Tryz.ntmps70; go_wp2_with (go_at_call 94; refine HI.out.mono ?_; rintro e w' ⟨rfl, rfl⟩); go_ret; exact ⟨by rw [HF.out]; simp, rfl⟩
set_option maxHeartbeats 400000 in
theorem beginsLine_ok (s : ByteArray) (w : World) (hs : 0 < s.size) : Calls Tryz.prog 67 #[.string s] w fun e w' => e = .returned (.bool (isLineF s.data.toList)) ∧ w = w' := by
 have hl : 0 < s.data.toList.length := by rw [text_len]; exact hs
 have hb := text_at s 0 hs; have hh := hasPrefix_s s ⟨#[45, 45]⟩ w
 have hF : isLineF s.data.toList = (decide ((s.data.toList[0]).toNat = 35) || begF [45, 45] s.data.toList) := by
  generalize s.data.toList = l at hl
  cases l with
  | nil => simp at hl
  | cons c r => rfl
 rw [show (⟨#[45, 45]⟩ : ByteArray).data.toList = [45, 45] from rfl] at hh; generalize begF [45, 45] s.data.toList = y at hh hF; generalize s.data.toList[0] = c at hb hF; have HH := hid hh; have HF := hid hF; clear hh hF hl; cases y <;> by_cases hc : c.toNat = 35
 all_goals
  go_enter Tryz.func67, Tryz.ntmps67; go_wp2_with (go_at_call 92; refine HH.out.mono ?_; rintro e w' ⟨rfl, rfl⟩); go_ret; exact ⟨ret_bool (by rw [HF.out]; first | (simp [hc]; done) | (simp [hc]; omega)), rfl⟩
set_option maxHeartbeats 400000 in
theorem beginsRemark_ok (s : ByteArray) (w : World) : Calls Tryz.prog 69 #[.string s] w fun e w' => e = .returned (.bool (isRemarkF s.data.toList)) ∧ w = w' := by
 have h1 := hasPrefix_s s ⟨#[47, 42]⟩ w; have h2 := hasPrefix_s s ⟨#[47, 42, 43]⟩ w; have hF : isRemarkF s.data.toList = (begF [47, 42] s.data.toList && !begF [47, 42, 43] s.data.toList) := rfl; rw [show (⟨#[47, 42]⟩ : ByteArray).data.toList = [47, 42] from rfl] at h1; rw [show (⟨#[47, 42, 43]⟩ : ByteArray).data.toList = [47, 42, 43] from rfl] at h2; generalize begF [47, 42] s.data.toList = x at h1 hF; generalize begF [47, 42, 43] s.data.toList = y at h2 hF; have H1 := hid h1; have H2 := hid h2; have HF := hid hF; clear h1 h2 hF; cases x <;> cases y
 all_goals
  go_enter Tryz.func69, Tryz.ntmps69; go_wp2_with fail; refine H1.out.mono ?_; rintro e w' ⟨rfl, rfl⟩; go_wp2_with fail
  first
   | (refine H2.out.mono ?_
      rintro e w' ⟨rfl, rfl⟩; go_wp2_with fail; go_ret
      exact ⟨ret_bool (by rw [HF.out]; rfl), rfl⟩)
   | (go_ret
      exact ⟨ret_bool (by rw [HF.out]; rfl), rfl⟩)
end

/- A name or a string between its quotes: contract. -/
section
open Go.RowKit
set_option maxRecDepth 100000
theorem cells2 {w : World} {b : Nat} {x y : Value} {t : TypeId} (h : w.heap[b]? = some (.cells #[x, y] t (0, 0))) :
 w.cell? ⟨b, 0, none⟩ = some x ∧ w.cell? ⟨b, 1, none⟩ = some y ∧ w.frozen? ⟨b, 0, none⟩ = false ∧ w.frozen? ⟨b, 1, none⟩ = false := by
 refine ⟨?_, ?_, ?_, ?_⟩
 · rw [cell_of_row _ _ 0 #[x, y] t (0, 0) h]; rfl
 · rw [cell_of_row _ _ 1 #[x, y] t (0, 0) h]; rfl
 · simp [World.frozen?, h]
 · simp [World.frozen?, h]
theorem alloc_pair (w : World) (o o' : Obj) : ((w.alloc o).alloc o').heap[w.heap.size]? = some o ∧ ((w.alloc o).alloc o').heap[w.heap.size + 1]? = some o' := by
 constructor
 · rw [(kp_new (w.alloc o) o').block _ (by simp)]; exact heap_alloc_new w o
 · have := heap_alloc_new (w.alloc o) o'; simpa using this
theorem byte_ne {a b : UInt8} (h : ¬ a = b) : ((a.toNat : Int) != (b.toNat : Int)) = true := by
 simp only [bne_iff_ne, ne_eq]; exact fun e => h (UInt8.toNat_inj.1 (by omega))
theorem byte_eq_no {a b : UInt8} (h : ¬ a = b) : ((a.toNat : Int) == (b.toNat : Int)) = false := by
 simp only [beq_eq_false_iff_ne, ne_eq]; exact fun e => h (UInt8.toNat_inj.1 (by omega))
def Ans1 (x : Option (Int × List UInt8 × Nat)) (k : Int) (r : ByteArray) (n : Nat) : Prop :=
 match x with
 | none => k = 0 ∧ r = ⟨#[]⟩ ∧ n = 0
 | some (k', t, m) => k = k' ∧ r.data.toList = t ∧ n = m
def tokV (k : Int) (r : ByteArray) : Value := .agg #[.int .i64 k, .string r]
set_option maxHeartbeats 1000000 in
theorem quoted_ok (kind : Int) (s : ByteArray) (c : UInt8) (rest : List UInt8) (w : World) (hs : s.size ≤ 1000000) (hl : s.data.toList = c :: rest) :
 Calls Tryz.prog 100 #[.int .i64 kind, .string s] w fun e w' => ∃ k r n, e = .returned (.tuple #[tokV k r, .int .i64 (n : Nat)]) ∧ Ans1 ((quotedF c rest).map fun x => (kind, x.1, x.2 + 1)) k r n ∧ Below w.heap.size w w' := by
 unfold tokV; have hn : 0 < s.size := by rw [← text_len, hl]; simp
 have hc0 : s[0] = c := by rw [text_at s 0 hn]; simp [hl]
 have hx : quotedF c rest = quotedF c (s.data.toList.drop 1) := by rw [hl]; rfl
 rw [hx]; generalize hR0 : quotedF c (s.data.toList.drop 1) = R; have HR := hid hR0; have hlen := hid (text_len s); clear hR0 hx hl; go_enter Tryz.func100, Tryz.ntmps100
 go_wp2
 go_loopw [8] (fun at_ wr => ∃ (k : Nat) (done : List UInt8), at_ = .int .i64 k ∧ 1 ≤ k ∧ k ≤ s.size ∧ done.length ≤ k ∧ Bd (w.heap.size + 1) (w.heap.size + 1) done wr ∧ w.heap.size + 1 < wr.heap.size ∧ wr.heap[w.heap.size]? = some (.cells #[.int .i64 0, .string ⟨#[]⟩] 142 (0, 0)) ∧ Hid (R = (quotedF c (s.data.toList.drop k)).map fun x => (done ++ x.1, x.2 + k - 1)) ∧ Below w.heap.size w wr) (fun at_ _ => s.size - (intOf at_).toNat)
 case atStart =>
  refine ⟨1, [], rfl, Nat.le_refl _, by omega, by simp, ?_, by simp, (alloc_pair w _ _).1, hid ?_, kp_alloc (kp_new _ _) _⟩
  · have := Bd.new (w.alloc (.cells #[.int .i64 0, .string ⟨#[]⟩] 142)) (w.heap.size + 1) (by simp); simpa using this
  · rw [HR.out]; cases R <;> simp
 case round =>
  obtain ⟨k, done, rfl, hk1, hks, hdl, hI, hsz, hres, hx, kw⟩ := hrel; have HRES := hid hres; clear hres HR; by_cases hlt : k < s.size
  · have hkl : k < s.data.toList.length := by rw [hlen.out]; exact hlt
    have hb := text_at s k hlt; have hd : s.data.toList.drop k = s.data.toList[k] :: s.data.toList.drop (k + 1) := List.drop_eq_getElem_cons hkl; rw [hd] at hx; generalize s.data.toList[k] = b at hb hd hx; clear hd; by_cases hbc : b = c
    · subst hbc; by_cases h1 : k + 1 < s.size
      · have hb1 := text_at s (k + 1) h1; have hd1 : s.data.toList.drop (k + 1) = s.data.toList[k + 1]'(by rw [hlen.out]; exact h1) :: s.data.toList.drop (k + 1 + 1) := List.drop_eq_getElem_cons _; rw [hd1] at hx; generalize s.data.toList[k + 1]'(by rw [hlen.out]; exact h1) = d at hb1 hd1 hx; clear hd1; by_cases hdb : d = b
        · subst hdb; rw [quotedF_twice] at hx
          have hx2 : Hid (R = (quotedF d (s.data.toList.drop (k + 1 + 1))).map fun x => (done ++ [d] ++ x.1, x.2 + (k + 1 + 1) - 1)) := hid (by
           rw [hx.out]; cases quotedF d (s.data.toList.drop (k + 1 + 1)) <;> simp
           omega)
          have hW := hid (writeByte_s (w.heap.size + 1) (w.heap.size + 1) done d wr hI (by omega) (by omega)); clear hx hI; go_wp2_with fail; refine hW.out.mono ?_; rintro e W1 ⟨rfl, hI1, b1, _⟩; go_wp2_with fail; go_roundw
          case rel => exact ⟨k + 1 + 1, done ++ [d], by go_num, by omega, by omega, by simp; omega, hI1, by have := b1.size; omega, (b1.block _ (Nat.lt_succ_self _)).trans HRES.out, hx2, kw.trans (b1.mono (Nat.le_succ _))⟩
          case measure => simp [intOf]; omega
        · have hR : R = some (done, k) := by rw [hx.out, quotedF_ends (by simpa using hdb)]; simp
          subst hR; have hdb2 : ((d.toNat : Int) != (b.toNat : Int)) = true := byte_ne hdb; have hS := hid (string_s (w.heap.size + 1) (w.heap.size + 1) done wr hI (by omega)); clear hx hI; go_wp2_with fail; refine hS.out.mono ?_; rintro e W1 ⟨r, rfl, hr, b1⟩; obtain ⟨x0, x1, f0, f1⟩ := cells2 ((b1.block _ (Nat.lt_succ_self _)).trans HRES.out); go_wp2_with fail; refine bodyPost_ret (v := .tuple #[.agg #[.int .i64 kind, .string r], .int .i64 ((k + 1 : Nat) : Int)]) ?_ rfl ⟨kind, r, k + 1, rfl, ⟨rfl, hr, rfl⟩, ?_⟩
          · rw [results_cell_tmp rfl]; go_simp
          · exact (((kw.trans (b1.mono (Nat.le_succ _))).setCell (Nat.le_refl _) _).setCell (Nat.le_refl _) _)
      · have h2 : ((k : Int) + 1 == (s.size : Int)) = true := by simp only [beq_iff_eq]; omega
        have hR : R = some (done, k) := by
         rw [hx.out, List.drop_eq_nil_of_le (by rw [hlen.out]; omega), quotedF_ends (by simp)]; simp
        subst hR; have hS := hid (string_s (w.heap.size + 1) (w.heap.size + 1) done wr hI (by omega)); clear hx hI; go_wp2_with fail; refine hS.out.mono ?_; rintro e W1 ⟨r, rfl, hr, b1⟩; obtain ⟨x0, x1, f0, f1⟩ := cells2 ((b1.block _ (Nat.lt_succ_self _)).trans HRES.out); go_wp2_with fail; refine bodyPost_ret (v := .tuple #[.agg #[.int .i64 kind, .string r], .int .i64 ((k + 1 : Nat) : Int)]) ?_ rfl ⟨kind, r, k + 1, rfl, ⟨rfl, hr, rfl⟩, ?_⟩
        · rw [results_cell_tmp rfl]; go_simp
        · exact (((kw.trans (b1.mono (Nat.le_succ _))).setCell (Nat.le_refl _) _).setCell (Nat.le_refl _) _)
    · rw [quotedF_other hbc] at hx
      have hx2 : Hid (R = (quotedF c (s.data.toList.drop (k + 1))).map fun x => (done ++ [b] ++ x.1, x.2 + (k + 1) - 1)) := hid (by
       rw [hx.out]
       cases quotedF c (s.data.toList.drop (k + 1)) <;> simp)
      have hbc2 := byte_eq_no hbc; have hW := hid (writeByte_s (w.heap.size + 1) (w.heap.size + 1) done b wr hI (by omega) (by omega)); clear hx hI; go_wp2_with fail; refine hW.out.mono ?_; rintro e W1 ⟨rfl, hI1, b1, _⟩; go_wp2_with fail; go_roundw
      case rel => exact ⟨k + 1, done ++ [b], by go_num, by omega, by omega, by simp; omega, hI1, by have := b1.size; omega, (b1.block _ (Nat.lt_succ_self _)).trans HRES.out, hx2, kw.trans (b1.mono (Nat.le_succ _))⟩
      case measure => simp [intOf]; omega
  · have hR : R = none := by rw [hx.out, List.drop_eq_nil_of_le (by rw [hlen.out]; omega)]; rfl
    subst hR; clear hx; obtain ⟨x0, x1, f0, f1⟩ := cells2 HRES.out; go_wp2_with fail; refine bodyPost_ret (v := .tuple #[.agg #[.int .i64 0, .string ⟨#[]⟩], .int .i64 ((0 : Nat) : Int)]) ?_ rfl ⟨0, ⟨#[]⟩, 0, rfl, ⟨rfl, rfl, rfl⟩, ?_⟩
    · rw [results_cell_tmp rfl]; go_simp
    · exact ((kw.setCell (Nat.le_refl _) _).setCell (Nat.le_refl _) _)
end

/- A hint, and the token that a text begins with: contracts. -/
section
open Go.RowKit
set_option maxRecDepth 100000
def hintF (l : List UInt8) : Option (List UInt8 × Nat) := if closedF l 3 = 0 then none else some (trimF ((l.take (closedF l 3 - 2)).drop 3), closedF l 3)
set_option maxHeartbeats 1000000 in
theorem hint_ok (s : ByteArray) (w : World) (hs : s.size ≤ 1000000) (h3 : 3 ≤ s.size) (hL : Lw w) :
 Calls Tryz.prog 101 #[.string s] w fun e w' => ∃ k r n, e = .returned (.tuple #[tokV k r, .int .i64 (n : Nat)]) ∧ Ans1 ((hintF s.data.toList).map fun x => (5, x.1, x.2)) k r n ∧ Below w.heap.size w w' := by
 unfold tokV; have hcl := closedF_le s.data.toList 3 (by rw [text_len]; exact h3); rw [text_len] at hcl; have hF : hintF s.data.toList = if closedF s.data.toList 3 = 0 then none else some (trimF ((s.data.toList.take (closedF s.data.toList 3 - 2)).drop 3), closedF s.data.toList 3) := rfl; have b0 := heap_alloc_new w (.cells #[.int .i64 0, .string ⟨#[]⟩] 142); have kw := kp_new w (.cells #[.int .i64 0, .string ⟨#[]⟩] 142); have hz : w.heap.size < (w.alloc (.cells #[.int .i64 0, .string ⟨#[]⟩] 142)).heap.size := by simp
 have hC := closedSize_ok s 3 _ hs h3 (hL.next kw); generalize hint0 : hintF s.data.toList = R at hF ⊢; clear hint0; have HZ := hid hz; have HB := hid b0; clear b0 hz; by_cases h0 : closedF s.data.toList 3 = 0
 · rw [if_pos h0] at hF; rw [h0] at hC; have HC := hid hC; subst hF; clear hC h0 hcl; go_enter Tryz.func101, Tryz.ntmps101; go_wp2_with fail; refine HC.out.mono ?_; rintro e w1 ⟨rfl, rfl⟩; obtain ⟨x0, x1, f0, f1⟩ := cells2 HB.out; go_wp2_with fail; refine bodyPost_ret (v := .tuple #[.agg #[.int .i64 0, .string ⟨#[]⟩], .int .i64 ((0 : Nat) : Int)]) ?_ rfl ⟨0, ⟨#[]⟩, 0, rfl, ⟨rfl, rfl, rfl⟩, ?_⟩
   · rw [results_cell_tmp rfl]; go_simp
   · exact kw
 · rw [if_neg h0] at hF; have h5 := hcl.2 h0; have hle := hcl.1; have hT := trim_s (s.extract 3 (closedF s.data.toList 3 - 2)) (w.alloc (.cells #[.int .i64 0, .string ⟨#[]⟩] 142)) (by rw [ByteArray.size_extract]; omega); rw [text_cut, show (s.data.toList.drop 3).take (closedF s.data.toList 3 - 2 - 3) = (s.data.toList.take (closedF s.data.toList 3 - 2)).drop 3 from by rw [List.drop_take]] at hT; generalize closedF s.data.toList 3 = n at hF hC hT h0 h5 hle; have HF := hid hF; have HC := hid hC; have HT := hid hT; have hsub : ((n : Int) + -2).toNat = n - 2 := by omega
   clear hF hC hT hcl; go_enter Tryz.func101, Tryz.ntmps101; go_wp2_with fail; refine HC.out.mono ?_; rintro e w1 ⟨rfl, rfl⟩; go_wp2_with fail; refine HT.out.mono ?_; rintro e w1 ⟨r, rfl, hr, k1⟩; obtain ⟨x0, x1, f0, f1⟩ := cells2 ((k1.block _ HZ.out).trans HB.out); go_wp2_with fail; refine bodyPost_ret (v := .tuple #[.agg #[.int .i64 5, .string r], .int .i64 (n : Int)]) ?_ rfl ⟨5, r, n, rfl, ?_, ?_⟩
   · rw [results_cell_tmp rfl]; go_simp
   · rw [HF.out]; exact ⟨rfl, hr, rfl⟩
   · exact (((kp_trans kw k1).setCell (Nat.le_refl _) _).setCell (Nat.le_refl _) _)
theorem lod_ascii (c : UInt8) (h : lodF c = true) : c.toNat < 128 := by
 have := by_all (fun c => !lodF c || decide (c.toNat < 128)) (by decide +kernel) c; simp only [h, Bool.not_true, Bool.false_or, decide_eq_true_eq] at this; exact this
def firstI (l : List UInt8) : Option (Int × List UInt8 × Nat) := (firstF l).map fun x => ((x.1 : Int), x.2.1, x.2.2)
set_option maxHeartbeats 2000000 in
theorem first_ok (s : ByteArray) (c : UInt8) (rest : List UInt8) (w : World) (hs : s.size ≤ 1000000) (hl : s.data.toList = c :: rest) (hL : Lw w) :
 Calls Tryz.prog 71 #[.string s] w fun e w' => ∃ k r n, e = .returned (.tuple #[tokV k r, .int .i64 (n : Nat)]) ∧ Ans1 (firstI s.data.toList) k r n ∧ Below w.heap.size w w' := by
 unfold tokV; have hn : 0 < s.size := by rw [← text_len, hl]; simp
 have hc0 : s[0] = c := by rw [text_at s 0 hn]; simp [hl]
 have b0 := heap_alloc_new w (.cells #[.int .i64 0, .string ⟨#[]⟩] 142); have kw := kp_new w (.cells #[.int .i64 0, .string ⟨#[]⟩] 142); have hz : w.heap.size < (w.alloc (.cells #[.int .i64 0, .string ⟨#[]⟩] 142)).heap.size := by simp
 have hL1 := hL.next kw; have hF : firstI s.data.toList = firstI (c :: rest) := by rw [hl]
 have HZ := hid hz; have HB := hid b0; have HLen := hid (text_len s); have HL := hid hl; generalize hR : firstI s.data.toList = R at hF ⊢; clear b0 hz hR hl; have H1 := fun u => isLetter_ok c u; by_cases h1 : letterF c = true
 · have hFF : firstI (c :: rest) = some (1, greatF ((c :: rest).take (runF lodF (c :: rest))), runF lodF (c :: rest)) := by simp [firstI, firstF, h1]
   rw [hFF, ← HL.out] at hF; have hr := fun u => run_lod s u hs; have hle := runF_le lodF s.data.toList; have hall := runF_all lodF s.data.toList; rw [text_len] at hle; generalize runF lodF s.data.toList = n at hF hr hle hall
   have hg := fun u => great_ok (s.extract 0 n) u (by rw [ByteArray.size_extract]; omega) (by
    rw [text_front]
    exact fun x hx => lod_ascii x (hall x hx))
   rw [text_front] at hg; rw [h1] at H1; have HF := hid hF; have H1' := hid H1; have HR := hid hr; have HG := hid hg; clear H1 hr hg hF hFF hall h1; go_enter Tryz.func71, Tryz.ntmps71; go_wp2_with fail; refine (H1'.out _).mono ?_; rintro e w1 ⟨rfl, rfl⟩; go_wp2_with fail; refine (HR.out _).mono ?_; rintro e w2 ⟨rfl, k2⟩; go_wp2_with fail; refine (HG.out _).mono ?_; rintro e w3 ⟨r, rfl, hr, k3⟩; obtain ⟨x0, x1, f0, f1⟩ := cells2 (((kp_trans k2 k3).block _ HZ.out).trans HB.out); go_wp2_with fail; refine bodyPost_ret (v := .tuple #[.agg #[.int .i64 1, .string r], .int .i64 (n : Int)]) ?_ rfl ⟨1, r, n, rfl, ?_, ?_⟩
   · rw [results_cell_tmp rfl]; go_simp
   · rw [HF.out]; exact ⟨rfl, hr, rfl⟩
   · exact (((kp_trans kw (kp_trans k2 k3)).setCell (Nat.le_refl _) _).setCell (Nat.le_refl _) _)
 have h1f : letterF c = false := by simpa using h1
 rw [h1f] at H1; have H1' := hid H1; clear H1; have H2 := fun u => isDigit_ok c u; by_cases h2 : digitF c = true
 · have hFF : firstI (c :: rest) = some (4, (c :: rest).take (runF digitF (c :: rest)), runF digitF (c :: rest)) := by simp [firstI, firstF, h1, h2]
   rw [hFF, ← HL.out] at hF; have hr := fun u => run_digit s u hs; have hle := runF_le digitF s.data.toList; rw [text_len] at hle; generalize runF digitF s.data.toList = n at hF hr hle; have ht := text_front s n; rw [h2] at H2; have HF := hid hF; have H2' := hid H2; have HR := hid hr; have HT := hid ht; clear H2 hr hF hFF h1 h1f h2 ht; go_enter Tryz.func71, Tryz.ntmps71; go_wp2_with fail; refine (H1'.out _).mono ?_; rintro e w1 ⟨rfl, rfl⟩; go_wp2_with fail; refine (H2'.out _).mono ?_; rintro e w1 ⟨rfl, rfl⟩; go_wp2_with fail; refine (HR.out _).mono ?_; rintro e w2 ⟨rfl, k2⟩; obtain ⟨x0, x1, f0, f1⟩ := cells2 ((k2.block _ HZ.out).trans HB.out); go_wp2_with fail; refine bodyPost_ret (v := .tuple #[.agg #[.int .i64 4, .string (s.extract 0 n)], .int .i64 (n : Int)]) ?_ rfl ⟨4, s.extract 0 n, n, rfl, ?_, ?_⟩
   · rw [results_cell_tmp rfl]; go_simp
   · rw [HF.out]; exact ⟨rfl, HT.out, rfl⟩
   · exact (((kp_trans kw k2).setCell (Nat.le_refl _) _).setCell (Nat.le_refl _) _)
 have h2f : digitF c = false := by simpa using h2
 rw [h2f] at H2; have H2' := hid H2; clear H2; by_cases h3 : c.toNat = 34 ∨ c.toNat = 96
 · have hFF : firstI (c :: rest) = (quotedF c rest).map fun x => ((2 : Int), x.1, x.2 + 1) := by
    simp only [firstI, firstF, h1f, h2f, if_pos h3, Bool.false_eq_true, if_false, Option.map_map]; rfl
   rw [hFF] at hF; have hQ := fun u => quoted_ok 2 s c rest u hs HL.out; unfold tokV at hQ; have HQ := hid hQ; have HF := hid hF
   have h3b : (((c.toNat : Int) == 34) = true) ∨ (((c.toNat : Int) == 34) = false ∧ ((c.toNat : Int) == 96) = true) := by
    simp only [beq_iff_eq, beq_eq_false_iff_ne, ne_eq]; omega
   clear hQ hF hFF h1 h1f h2 h2f h3; rcases h3b with h3a | ⟨h3a, h3c⟩
   all_goals
    go_enter Tryz.func71, Tryz.ntmps71; go_wp2_with fail; refine (H1'.out _).mono ?_; rintro e w1 ⟨rfl, rfl⟩; go_wp2_with fail; refine (H2'.out _).mono ?_; rintro e w1 ⟨rfl, rfl⟩; go_wp2_with fail; refine (HQ.out _).mono ?_; rintro e w2 ⟨k, r, n, rfl, hA, k2⟩; obtain ⟨x0, x1, f0, f1⟩ := cells2 ((k2.block _ HZ.out).trans HB.out); go_wp2_with fail; refine bodyPost_ret (v := .tuple #[.agg #[.int .i64 k, .string r], .int .i64 (n : Int)]) ?_ rfl ⟨k, r, n, rfl, ?_, ?_⟩
    · rw [results_cell_tmp rfl]; go_simp
    · rw [HF.out]; exact hA
    · exact (((kp_trans kw k2).setCell (Nat.le_refl _) _).setCell (Nat.le_refl _) _)
 have h3a : ((c.toNat : Int) == 34) = false := by simp only [beq_eq_false_iff_ne, ne_eq]; omega
 have h3c : ((c.toNat : Int) == 96) = false := by simp only [beq_eq_false_iff_ne, ne_eq]; omega
 by_cases h4 : c.toNat = 39
 · have hFF : firstI (c :: rest) = (quotedF c rest).map fun x => ((3 : Int), x.1, x.2 + 1) := by
    simp only [firstI, firstF, h1f, h2f, if_neg h3, if_pos h4, Bool.false_eq_true, if_false, Option.map_map]; rfl
   rw [hFF] at hF; have hQ := fun u => quoted_ok 3 s c rest u hs HL.out; unfold tokV at hQ; have HQ := hid hQ; have HF := hid hF; have h4i : ((c.toNat : Int) == 39) = true := by simp only [beq_iff_eq]; omega
   clear hQ hF hFF h1 h1f h2 h2f h3 h4; go_enter Tryz.func71, Tryz.ntmps71; go_wp2_with fail; refine (H1'.out _).mono ?_; rintro e w1 ⟨rfl, rfl⟩; go_wp2_with fail; refine (H2'.out _).mono ?_; rintro e w1 ⟨rfl, rfl⟩; go_wp2_with fail; refine (HQ.out _).mono ?_; rintro e w2 ⟨k, r, n, rfl, hA, k2⟩; obtain ⟨x0, x1, f0, f1⟩ := cells2 ((k2.block _ HZ.out).trans HB.out); go_wp2_with fail; refine bodyPost_ret (v := .tuple #[.agg #[.int .i64 k, .string r], .int .i64 (n : Int)]) ?_ rfl ⟨k, r, n, rfl, ?_, ?_⟩
   · rw [results_cell_tmp rfl]; go_simp
   · rw [HF.out]; exact hA
   · exact (((kp_trans kw k2).setCell (Nat.le_refl _) _).setCell (Nat.le_refl _) _)
 have h4a : ((c.toNat : Int) == 39) = false := by simp only [beq_eq_false_iff_ne, ne_eq]; omega
 have hP := fun u => hasPrefix_s s ⟨#[47, 42, 43]⟩ u; rw [show (⟨#[47, 42, 43]⟩ : ByteArray).data.toList = [47, 42, 43] from rfl] at hP; by_cases h5 : begF [47, 42, 43] s.data.toList = true
 · have hsz : 3 ≤ s.size := by
    rw [← text_len]; have := (List.isPrefixOf_iff_prefix.1 h5).length_le; simpa using this
   have hFF : firstI (c :: rest) = (hintF s.data.toList).map fun x => ((5 : Int), x.1, x.2) := by
    rw [HL.out] at h5 ⊢; simp only [firstI, firstF, h1f, h2f, if_neg h3, if_neg h4, if_pos h5, Bool.false_eq_true, if_false, hintF]; split <;> rfl
   rw [hFF] at hF; have hQ := hint_ok s _ hs hsz hL1; unfold tokV at hQ; rw [h5] at hP; have HP := hid hP; have HQ := hid hQ; have HF := hid hF; clear hQ hF hFF h1 h1f h2 h2f h3 h4 hP h5; go_enter Tryz.func71, Tryz.ntmps71; go_wp2_with fail; refine (H1'.out _).mono ?_; rintro e w1 ⟨rfl, rfl⟩; go_wp2_with fail; refine (H2'.out _).mono ?_; rintro e w1 ⟨rfl, rfl⟩; go_wp2_with fail; refine (HP.out _).mono ?_; rintro e w1 ⟨rfl, rfl⟩; go_wp2_with fail; refine HQ.out.mono ?_; rintro e w2 ⟨k, r, n, rfl, hA, k2⟩; obtain ⟨x0, x1, f0, f1⟩ := cells2 ((k2.block _ HZ.out).trans HB.out); go_wp2_with fail; refine bodyPost_ret (v := .tuple #[.agg #[.int .i64 k, .string r], .int .i64 (n : Int)]) ?_ rfl ⟨k, r, n, rfl, ?_, ?_⟩
   · rw [results_cell_tmp rfl]; go_simp
   · rw [HF.out]; exact hA
   · exact (((kp_trans kw k2).setCell (Nat.le_refl _) _).setCell (Nat.le_refl _) _)
 have h5f : begF [47, 42, 43] s.data.toList = false := by simpa using h5
 have h5c : begF [47, 42, 43] (c :: rest) = false := by rw [← HL.out]; exact h5f
 rw [h5f] at hP; have HP := hid hP; clear hP h5 h5f; have H6 := fun u => isSign_ok c u; by_cases h6 : signF c = true
 · have hFF : firstI (c :: rest) = some (6, [c], 1) := by
    simp only [firstI, firstF, h1f, h2f, if_neg h3, if_neg h4, h5c, if_pos h6, Bool.false_eq_true, if_false]; rfl
   rw [hFF] at hF; rw [h6] at H6; have ht : (s.extract 0 1).data.toList = [c] := by rw [text_front, HL.out]; rfl
   have H6' := hid H6; have HF := hid hF; have HT := hid ht; clear H6 hF hFF h1 h1f h2 h2f h3 h4 h5c ht h6; go_enter Tryz.func71, Tryz.ntmps71; go_wp2_with fail; refine (H1'.out _).mono ?_; rintro e w1 ⟨rfl, rfl⟩; go_wp2_with fail; refine (H2'.out _).mono ?_; rintro e w1 ⟨rfl, rfl⟩; go_wp2_with fail; refine (HP.out _).mono ?_; rintro e w1 ⟨rfl, rfl⟩; go_wp2_with fail; refine (H6'.out _).mono ?_; rintro e w1 ⟨rfl, rfl⟩; obtain ⟨x0, x1, f0, f1⟩ := cells2 HB.out; go_wp2_with fail; refine bodyPost_ret (v := .tuple #[.agg #[.int .i64 6, .string (s.extract 0 1)], .int .i64 ((1 : Nat) : Int)]) ?_ rfl ⟨6, s.extract 0 1, 1, rfl, ?_, ?_⟩
   · rw [results_cell_tmp rfl]; go_simp
   · rw [HF.out]; exact ⟨rfl, HT.out, rfl⟩
   · first | exact ((kw.setCell (Nat.le_refl _) _).setCell (Nat.le_refl _) _) | exact kp_new _ _
 · have h6f : signF c = false := by simpa using h6
   have hFF : firstI (c :: rest) = none := by
    simp only [firstI, firstF, h1f, h2f, if_neg h3, if_neg h4, h5c, h6f, Bool.false_eq_true, if_false]; rfl
   rw [hFF] at hF; rw [h6f] at H6; have H6' := hid H6; have HF := hid hF; clear H6 hF hFF h1 h1f h2 h2f h3 h4 h5c h6 h6f; go_enter Tryz.func71, Tryz.ntmps71; go_wp2_with fail; refine (H1'.out _).mono ?_; rintro e w1 ⟨rfl, rfl⟩; go_wp2_with fail; refine (H2'.out _).mono ?_; rintro e w1 ⟨rfl, rfl⟩; go_wp2_with fail; refine (HP.out _).mono ?_; rintro e w1 ⟨rfl, rfl⟩; go_wp2_with fail; refine (H6'.out _).mono ?_; rintro e w1 ⟨rfl, rfl⟩; obtain ⟨x0, x1, f0, f1⟩ := cells2 HB.out; go_wp2_with fail; refine bodyPost_ret (v := .tuple #[.agg #[.int .i64 0, .string ⟨#[]⟩], .int .i64 ((0 : Nat) : Int)]) ?_ rfl ⟨0, ⟨#[]⟩, 0, rfl, ?_, ?_⟩
   · rw [results_cell_tmp rfl]; go_simp
   · rw [HF.out]; exact ⟨rfl, rfl, rfl⟩
   · first | exact ((kw.setCell (Nat.le_refl _) _).setCell (Nat.le_refl _) _) | exact kp_new _ _
end
end Go.Proofs.YtdhnpmagapbmhaaGreatDoor
