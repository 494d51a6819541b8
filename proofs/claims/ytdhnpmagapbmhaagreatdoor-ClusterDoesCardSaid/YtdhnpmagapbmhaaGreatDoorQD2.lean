/-
  Contracts and plain functions that the law stands on, part 2 of 24.
-/
import Derived.Test.YtdhnpmagapbmhaaGreatDoorQD1
import Derived.WalkMore
import Derived.OrdersHeld
import Derived.Deep.RegionHeld
import Derived.BigQuiet
import Derived.Deep.RegionWith
import Derived.Shelf.Strings.Replace
namespace Go.Proofs.YtdhnpmagapbmhaaGreatDoor
/- Append onto a row of the call's own whose elements are of several cells; a block's two cells. -/
section
open Go.RowKit
set_option maxRecDepth 100000
section
variable {P : Program} {w : World}
theorem run_append_nothings (base : Nat) (t ty e : TypeId) (i : TypeInfo) (size : Nat) (ht : P.underlying t = some (.slice e)) (hi : P.info? e = some i)
 (v : Value) (n c : Nat) (xs : List Value) (hown : w.ownsRow base e size v n xs) : (Builtin.append_ #[t, t] ty #[v, .slice none 0 c]).run P w = .ok v w := by
 rcases hown.2 with ⟨rfl, rfl⟩ | ⟨g, cap, cur, rfl, _, _, hnc, _⟩
 · simp [Builtin.append_, run_underlying ht, sizeOf, typeInfo, hi, Builtin.lenOf, Builtin.firstCells]
 · simp [Builtin.append_, run_underlying ht, sizeOf, typeInfo, hi, Builtin.lenOf, Builtin.firstCells, hnc, storeCells]
theorem run_append_rds (base : Nat) (t ty e : TypeId) (i : TypeInfo) (z : Value) (size bytes : Nat) (ht : P.underlying t = some (.slice e)) (hi : P.info? e = some i) (hz : i.zero = some z)
 (hsize : i.size = size) (hby : i.bytes = bytes) (hzs : z.cells.size = size) (hsz : 0 < size)
 (v : Value) (n : Nat) (xs : List Value) (hown : w.ownsRow base e size v n xs)
 (B : Nat) (A : Option Addr) (m c : Nat) (news : List Value) (hm : news.length = m * size) (hr : Rd w B A news) (h1 : ∀ u ∈ news, u.oneCell' = true)
 (h63 : n + m ≤ maxLen) (hbytes : (n + m) * bytes ≤ 140737488355328) (hbase : base ≤ w.heap.size) :
 ∃ v' w', (Builtin.append_ #[t, t] ty #[v, .slice A m c]).run P w = .ok v' w' ∧ w'.ownsRow base e size v' (n + m) (xs ++ news) ∧ w.grownBy w' v.ownBlock := by
 cases A with
 | none =>
   have hn : news = [] := by
    rcases hr with h | ⟨_, h, _⟩
    · exact h
    · cases h
   subst hn
   obtain rfl : m = 0 := by
    rcases Nat.eq_zero_or_pos m with h | h
    · exact h
    · have := Nat.mul_pos h hsz; simp at hm
      omega
   exact ⟨v, w, run_append_nothings base t ty e i size ht hi v n c xs hown, by simpa using hown, World.grownBy.refl w _⟩
 | some ad =>
   have hc : ∀ j u, news[j]? = some u → w.cell? (ad.add j) = some u := by
    intro j u hu; rcases hr with h | ⟨ad', h, _, hc⟩
    · subst h; simp at hu
    · injection h with h; subst h; exact hc j u hu
   obtain ⟨v', w', hrun, h2, h3, _⟩ := run_append_own (P := P) w base t ty e i z size bytes ht hi hz hsize hby hzs hsz v n xs hown ad m c news hm hc h1 h63 hbytes hbase; exact ⟨v', w', hrun, h2, h3⟩
theorem wp_append_rds {o : Oper} {a : Act} {K : Act → World → Prop} {Q : Exit → Act → World → Prop} (s x : Operand) (t : TypeId)
 (ho : o.op = .call { callee := .builtin .append, args := #[s, x], argTypes := #[t, t] })
 (base : Nat) (e : TypeId) (i : TypeInfo) (z : Value) (size bytes : Nat) (ht : P.underlying t = some (.slice e)) (hi : P.info? e = some i) (hz : i.zero = some z)
 (hsize : i.size = size) (hby : i.bytes = bytes) (hzs : z.cells.size = size) (hsz : 0 < size)
 (v : Value) (n : Nat) (xs : List Value) (hs : a.eval s = v) (hown : w.ownsRow base e size v n xs)
 (B : Nat) (A : Option Addr) (m c : Nat) (news : List Value) (hx : a.eval x = .slice A m c) (hm : news.length = m * size) (hr : Rd w B A news) (h1 : ∀ u ∈ news, u.oneCell' = true)
 (h63 : n + m ≤ maxLen) (hbytes : (n + m) * bytes ≤ 140737488355328) (hbase : base ≤ w.heap.size)
 (h : ∀ v' w', w'.ownsRow base e size v' (n + m) (xs ++ news) → w.grownBy w' v.ownBlock → K (a.put o.dst v') w') : o.wp P a w K Q := by
 obtain ⟨v', w', hrun, h2, h3⟩ := run_append_rds (P := P) base t o.type e i z size bytes ht hi hz hsize hby hzs hsz v n xs hown B A m c news hm hr h1 h63 hbytes hbase; unfold Oper.wp execOp; simp only [ho, resolve, invoke, builtin, Sem.run_bind, Sem.run_pure, Result.andThen_ok, List.map_toArray, List.map_cons, List.map_nil, hs, hx, hrun]; exact h v' w' h2 h3
theorem wpList_append_rds {ops : Array Oper} {rest : List Oper} {o : Oper} {a : Act} {Q : Exit → Act → World → Prop} (hw : Region.wanted o (yielded ops a.tmps) = true) (s x : Operand) (t : TypeId)
 (ho : o.op = .call { callee := .builtin .append, args := #[s, x], argTypes := #[t, t] })
 (base : Nat) (e : TypeId) (i : TypeInfo) (z : Value) (size bytes : Nat) (ht : P.underlying t = some (.slice e)) (hi : P.info? e = some i) (hz : i.zero = some z)
 (hsize : i.size = size) (hby : i.bytes = bytes) (hzs : z.cells.size = size) (hsz : 0 < size)
 (v : Value) (n : Nat) (xs : List Value) (hs : a.eval s = v) (hown : w.ownsRow base e size v n xs)
 (B : Nat) (A : Option Addr) (m c : Nat) (news : List Value) (hx : a.eval x = .slice A m c) (hm : news.length = m * size) (hr : Rd w B A news) (h1 : ∀ u ∈ news, u.oneCell' = true)
 (h63 : n + m ≤ maxLen) (hbytes : (n + m) * bytes ≤ 140737488355328) (hbase : base ≤ w.heap.size)
 (h : ∀ v' w', w'.ownsRow base e size v' (n + m) (xs ++ news) → w.grownBy w' v.ownBlock → wpList P ops Q rest (a.put o.dst v') w') : wpList P ops Q (o :: rest) a w :=
 wpList_step fun _ hK => by
  rw [if_pos hw]; exact wp_append_rds s x t ho base e i z size bytes ht hi hz hsize hby hzs hsz v n xs hs hown B A m c news hx hm hr h1 h63 hbytes hbase fun v' w' h2 h3 => hK _ _ (h v' w' h2 h3)
end
theorem own_form_s {w : World} {base n size : Nat} {e : TypeId} {v : Value} {xs : List Value} (h : w.ownsRow base e size v n xs) : ∃ A c, v = .slice A n c ∧ n ≤ c ∧ c ≤ maxLen := by
 rcases h.2 with ⟨rfl, rfl⟩ | ⟨g, cap, cur, rfl, _, _, h1, h2, _⟩
 · exact ⟨_, _, rfl, Nat.le_refl _, by simp [maxLen]⟩
 · exact ⟨_, _, rfl, h1, h2⟩
theorem own_below_s {w w' : World} {base n B size : Nat} {e : TypeId} {v : Value} {xs : List Value} (h : w.ownsRow base e size v n xs) (hb : Below B w w') (hB : w.heap.size ≤ B) : w'.ownsRow base e size v n xs := by
 refine ⟨h.1, ?_⟩; rcases h.2 with h2 | ⟨g, cap, cur, hv, hg, hh, r⟩
 · exact .inl h2
 · have hlt := (Array.getElem?_eq_some_iff.1 hh).1; exact .inr ⟨g, cap, cur, hv, hg, (hb.block g (by omega)).trans hh, r⟩
theorem own_base_s {w : World} {base base' n size : Nat} {e : TypeId} {v : Value} {xs : List Value} (h : w.ownsRow base e size v n xs) (hB : base' ≤ base) : w.ownsRow base' e size v n xs := by
 refine ⟨h.1, ?_⟩; rcases h.2 with h2 | ⟨g, cap, cur, hv, hg, r⟩
 · exact .inl h2
 · exact .inr ⟨g, cap, cur, hv, by omega, r⟩
theorem below_own_s {w w' : World} {base n size : Nat} {e : TypeId} {v : Value} {xs : List Value} (h : w.ownsRow base e size v n xs) (hg : w.grownBy w' v.ownBlock) (hb : base ≤ w.heap.size) : Below base w w' :=
 (Below.refl _ _).grown hg hb (fun k hk => (h.lt k hk).1)
theorem own_apart {w w' : World} {base base' n n' size size' : Nat} {e e' : TypeId} {v v' : Value} {xs xs' : List Value} (h : w.ownsRow base e size v n xs) (h' : w.ownsRow base' e' size' v' n' xs') (he : e ≠ e') (hg : w.grownBy w' v'.ownBlock) : w'.ownsRow base e size v n xs := by
 refine h.kept hg ?_; rcases h.2 with ⟨rfl, _⟩ | ⟨g, cap, cur, rfl, _, hh, _⟩
 · exact .inl rfl
 · refine .inr ?_; rcases h'.2 with ⟨rfl, _⟩ | ⟨g', cap', cur', rfl, _, hh', _⟩
   · simp [Value.ownBlock]
   · simp only [Value.ownBlock, ne_eq, Option.some.injEq]; rintro rfl; rw [hh] at hh'; simp only [Option.some.injEq, Obj.cells.injEq] at hh'; exact he hh'.2.1
theorem own_new_s (w : World) (base size : Nat) (e : TypeId) (n : Nat) (xs : List Value) (hx : xs.length = n * size) (hb : base ≤ w.heap.size) (hn : n ≤ maxLen) : (w.alloc (.cells xs.toArray e)).ownsRow base e size (.slice (some ⟨w.heap.size, 0, none⟩) n n) n xs :=
 ⟨hx, .inr ⟨w.heap.size, n, _, rfl, hb, heap_alloc_new w _, Nat.le_refl _, hn, by simpa using hx, List.take_of_length_le (by simp [hx])⟩⟩
end

/- Rows of tokens as they lie in memory: of whatever package's token type. -/
section
open Go.RowKit
set_option maxRecDepth 100000
structure Tk where
 k : Int
 t : ByteArray
deriving DecidableEq
instance : Inhabited Tk := ⟨⟨0, ⟨#[]⟩⟩⟩
def Tk.cells (t : Tk) : List Value := [.int .i64 t.k, .string t.t]
def tkC (ts : List Tk) : List Value := ts.flatMap Tk.cells
def Tk.says (t : Tk) : Int × List UInt8 := (t.k, t.t.data.toList)
def saysT (ts : List Tk) : List (Int × List UInt8) := ts.map Tk.says
theorem saysT_append (a b : List Tk) : saysT (a ++ b) = saysT a ++ saysT b := by simp [saysT]
theorem saysT_length (a : List Tk) : (saysT a).length = a.length := by simp [saysT]
theorem tkC_length : ∀ ts : List Tk, (tkC ts).length = ts.length * 2
 | [] => rfl
 | r :: rs => by
   have := tkC_length rs; simp only [tkC, List.flatMap_cons, List.length_append, List.length_cons, Tk.cells, List.length_nil] at this ⊢; omega
theorem tkC_append (a b : List Tk) : tkC (a ++ b) = tkC a ++ tkC b := by simp [tkC]
theorem tkC_at : ∀ (rs : List Tk) (j : Nat) (h : j < rs.length), (tkC rs)[j * 2]? = some (.int .i64 rs[j].k) ∧ (tkC rs)[j * 2 + 1]? = some (.string rs[j].t)
 | [], _, h => by simp at h
 | r :: rs, 0, _ => by simp [tkC, Tk.cells]
 | r :: rs, j + 1, h => by
   have := tkC_at rs j (by simpa using h); have e1 : (j + 1) * 2 = j * 2 + 2 := by omega
   simp only [tkC, List.flatMap_cons] at this ⊢; rw [e1]; simpa [Tk.cells] using this
theorem Rd.of_ownT {w : World} {A : Option Addr} {xs : List Value} {base n c : Nat} {e : TypeId} (h : w.ownsRow base e 2 (.slice A n c) n xs) : Rd w w.heap.size A xs := by
 rcases h.2 with ⟨_, hn⟩ | ⟨g, cap, cur, hv, _, hg, _⟩
 · exact .inl (List.eq_nil_of_length_eq_zero (by have := h.1; omega))
 · have hA : A = some ⟨g, 0, none⟩ := by injection hv
   subst hA; exact .inr ⟨_, rfl, (Array.getElem?_eq_some_iff.1 hg).1, h.cells (g := g) rfl⟩
structure TR (w : World) (A : Option Addr) (n : Nat) (ts : List Tk) : Prop where
 len : ts.length = n
 rd : Rd w w.heap.size A (tkC ts)
theorem TR.next {w w' : World} {A : Option Addr} {n : Nat} {ts : List Tk} (h : TR w A n ts) (hb : Below w.heap.size w w') : TR w' A n ts := ⟨h.len, (h.rd.below hb (Nat.le_refl _)).more hb.size⟩
theorem TR.at_ {w : World} {A : Option Addr} {n : Nat} {ts : List Tk} (h : TR w A n ts) {j : Nat} (hj : j < ts.length) : ∃ ad, A = some ad ∧ ad.block < w.heap.size ∧ ∀ w', Below w.heap.size w w' → w'.cell? (ad.add (j * 2)) = some (.int .i64 ts[j].k) ∧ w'.cell? ⟨(ad.add (j * 2)).block, (ad.add (j * 2)).off + 1, none⟩ = some (.string ts[j].t) := by
 obtain ⟨ad, hA, hb, hc⟩ := h.rd.addr (by rw [tkC_length]; omega); refine ⟨ad, hA, hb, fun w' hw => ⟨?_, ?_⟩⟩
 · rw [hw.cell (by rw [add_block]; exact hb)]; exact hc _ _ (tkC_at ts j hj).1
 · have e1 : (⟨(ad.add (j * 2)).block, (ad.add (j * 2)).off + 1, none⟩ : Addr) = ad.add (j * 2 + 1) := by rw [← add_add]; rfl
   rw [e1, hw.cell (by rw [add_block]; exact hb)]; exact hc _ _ (tkC_at ts j hj).2
structure OT (e : TypeId) (w : World) (base : Nat) (A : Option Addr) (n c : Nat) (ts : List Tk) : Prop where
 own : w.ownsRow base e 2 (.slice A n c) n (tkC ts)
 cap : n ≤ c
section
variable {e : TypeId} {w : World} {base : Nat} {A : Option Addr} {n c : Nat} {ts : List Tk}
theorem OT.len (h : OT e w base A n c ts) : ts.length = n := by
 have := h.own.1; rw [tkC_length] at this; omega
theorem OT.tr (h : OT e w base A n c ts) : TR w A n ts := ⟨h.len, Rd.of_ownT h.own⟩
theorem OT.next {w' : World} (h : OT e w base A n c ts) (hb : Below w.heap.size w w') : OT e w' base A n c ts := ⟨own_below_s h.own hb (Nat.le_refl _), h.cap⟩
theorem OT.nil (e : TypeId) (w : World) (base : Nat) : OT e w base none 0 0 [] := ⟨World.ownsRow_nil _ _ _ _, Nat.le_refl _⟩
theorem OT.push {v : Value} {k : Int} {r : ByteArray} (h : w.ownsRow base e 2 v (n + 1) (tkC ts ++ [.int .i64 k, .string r])) : ∃ A c, v = .slice A (n + 1) c ∧ OT e w base A (n + 1) c (ts ++ [⟨k, r⟩]) := by
 obtain ⟨A, c, rfl, h1, _⟩ := own_form_s h; exact ⟨A, c, rfl, by rw [tkC_append]; exact h, h1⟩
end
theorem tkinfo : (Tryz.prog.info? 142).map (fun i => (i.zero, i.size, i.bytes)) = some (some (.agg #[.int .i64 0, .string ⟨#[]⟩]), 2, 24) := by kernel_rfl
theorem tkinfoR : (Tryz.prog.info? 182).map (fun i => (i.zero, i.size, i.bytes)) = some (some (.agg #[.int .i64 0, .string ⟨#[]⟩]), 2, 24) := by kernel_rfl
end

/- The document's layer 4: bytes, and where a text stands in another one: contracts. -/
section
open Go.RowKit
set_option maxRecDepth 100000
theorem rblank_ok (c : UInt8) (w : World) : Calls Tryz.prog 159 #[.int .u8 (c.toNat : Int)] w fun e w' => e = .returned (.bool (blankF c)) ∧ w = w' := by
 have hF : blankF c = (decide (c.toNat = 32) || decide (c.toNat = 9) || decide (c.toNat = 10) || decide (c.toNat = 13)) := by
  have := by_all (fun c => blankF c == (decide (c.toNat = 32) || decide (c.toNat = 9) || decide (c.toNat = 10) || decide (c.toNat = 13))) (by decide +kernel) c; simpa using this
 have HF := hid hF; clear hF; go_enter Tryz.func159, Tryz.ntmps159
 go_wp2
 all_goals
  go_ret; refine ⟨ret_bool ?_, rfl⟩; rw [HF.out, Bool.eq_iff_iff]; simp
  try omega
theorem rdigit_ok (c : UInt8) (w : World) : Calls Tryz.prog 164 #[.int .u8 (c.toNat : Int)] w fun e w' => e = .returned (.bool (digitF c)) ∧ w = w' := by
 have hF : digitF c = (decide (48 ≤ c.toNat) && decide (c.toNat ≤ 57)) := rfl; have HF := hid hF; clear hF; go_enter Tryz.func164, Tryz.ntmps164
 go_wp2
 all_goals
  go_ret; refine ⟨ret_bool ?_, rfl⟩; rw [HF.out, Bool.eq_iff_iff]; simp
  try omega
theorem rletter_ok (c : UInt8) (w : World) : Calls Tryz.prog 163 #[.int .u8 (c.toNat : Int)] w fun e w' => e = .returned (.bool (letterF c)) ∧ w = w' := by
 have hF : letterF c = (decide (65 ≤ c.toNat) && decide (c.toNat ≤ 90) || decide (97 ≤ c.toNat) && decide (c.toNat ≤ 122) || decide (c.toNat = 95)) := rfl; have HF := hid hF; clear hF; go_enter Tryz.func163, Tryz.ntmps163
 go_wp2
 all_goals
  go_ret; refine ⟨ret_bool ?_, rfl⟩; rw [HF.out, Bool.eq_iff_iff]; simp
  try omega
theorem occ_cut (s t : ByteArray) (i : Nat) (h : i + t.size ≤ s.size) : ((s.extract i (i + t.size)).toList == t.toList) = Lib.occAt s.data.toList t.data.toList i := by
 rw [toList_dataR, toList_dataR, text_cut, Lib.occAt_iff_take _ _ _ (by rw [text_len, text_len]; exact h), text_len, Nat.add_sub_cancel_left]
where
 toList_dataR (s : ByteArray) : s.toList = s.data.toList := ByteArray.toList_eq s
theorem occ_none {l t : List UInt8} {i : Nat} (h : l.length < i + t.length) (ht : t ≠ []) : Lib.occAt l t i = false := by
 cases hb : Lib.occAt l t i with
 | false => rfl
 | true =>
   rcases Lib.occAt_room hb with h2 | h2
   · omega
   · exact absurd h2 ht
set_option maxHeartbeats 400000 in
theorem rat_ok (s t : ByteArray) (i : Nat) (w : World) (hi : i ≤ s.size) (hs : s.size ≤ 140737488351232) (ht : 0 < t.size) (ht2 : t.size ≤ 1000) :
 Calls Tryz.prog 160 #[.string s, .string t, .int .i64 (i : Int)] w fun e w' => e = .returned (.bool (begF t.data.toList (s.data.toList.drop i))) ∧ w = w' := by
 have hF : begF t.data.toList (s.data.toList.drop i) = Lib.occAt s.data.toList t.data.toList i := rfl; rw [hF]; by_cases h : i + t.size ≤ s.size
 · have he := occ_cut s t i h; generalize Lib.occAt s.data.toList t.data.toList i = b at he; have h2 : ((i : Int) + (t.size : Int)).toNat = i + t.size := by omega
   have HE := hid he; clear he hF; go_enter Tryz.func160, Tryz.ntmps160; go_wp2_with fail; go_ret; exact ⟨ret_bool (by rw [← HE.out]), rfl⟩
 · have hn := occ_none (l := s.data.toList) (t := t.data.toList) (i := i) (by rw [text_len, text_len]; omega) (by intro e; have := congrArg List.length e; rw [text_len, List.length_nil] at this; omega); rw [hn]; have hg : ¬ ((i : Int) + (t.size : Int) ≤ (s.size : Int)) := by omega
   clear hF hn h; go_enter Tryz.func160, Tryz.ntmps160; go_wp2_with fail; go_ret; exact ⟨rfl, rfl⟩
def findF (l t : List UInt8) (i : Nat) : Int := if Lib.index (l.drop i) t < 0 then -1 else (i : Int) + Lib.index (l.drop i) t
set_option maxHeartbeats 1000000 in
theorem rfind_ok (s t : ByteArray) (i : Nat) (w : World) (hi : i ≤ s.size) (hs : s.size ≤ 140737488351232) (ht : 0 < t.size) (ht2 : t.size ≤ 1000) :
 Calls Tryz.prog 161 #[.string s, .string t, .int .i64 (i : Int)] w fun e w' => e = .returned (.int .i64 (findF s.data.toList t.data.toList i)) ∧ w = w' := by
 have hne : t.data.toList ≠ [] := by intro e; have := congrArg List.length e; rw [text_len, List.length_nil] at this; omega
 have hocc : ∀ j, Lib.occAt (s.data.toList.drop i) t.data.toList j = Lib.occAt s.data.toList t.data.toList (i + j) := fun j => by unfold Lib.occAt; rw [List.drop_drop]
 have hhit : ∀ k, i ≤ k → k ≤ s.size → Lib.occAt s.data.toList t.data.toList k = true → (∀ j, i ≤ j → j < k → Lib.occAt s.data.toList t.data.toList j = false) → findF s.data.toList t.data.toList i = (k : Int) := fun k hk hks h1 h2 => by
  have := Lib.index_first (s := s.data.toList.drop i) (sub := t.data.toList) (i := k - i) (by rw [List.length_drop, text_len]; omega) (by rw [hocc, show i + (k - i) = k by omega]; exact h1) (fun j hj => by rw [hocc]; exact h2 _ (by omega) (by omega)); unfold findF; rw [this, if_neg (by omega)]; omega
 have hmiss : (∀ j, i ≤ j → j + t.size ≤ s.size → Lib.occAt s.data.toList t.data.toList j = false) → findF s.data.toList t.data.toList i = -1 := fun h => by
  have := Lib.index_none (s := s.data.toList.drop i) (sub := t.data.toList) (fun j _ => by
   rw [hocc]; rcases Nat.lt_or_ge s.size (i + j + t.size) with h1 | h1
   · exact occ_none (by rw [text_len, text_len]; omega) hne
   · exact h _ (by omega) h1)
  unfold findF; rw [this, if_pos (by omega)]
 have hcut := fun k (h : k + t.size ≤ s.size) => occ_cut s t k h; generalize findF s.data.toList t.data.toList i = R at hhit hmiss; generalize Lib.occAt s.data.toList t.data.toList = oc at *; have HH := hid hhit; have HM := hid hmiss; have HC := hid hcut; clear hhit hmiss hcut hocc hne; go_enter Tryz.func161, Tryz.ntmps161
 go_wp2
 go_loop [7] (fun v => ∃ k : Nat, v = .int .i64 k ∧ i ≤ k ∧ k ≤ s.size + 1 ∧ Hid (∀ j, i ≤ j → j < k → oc j = false)) (fun v => s.size + 1 - (intOf v).toNat)
 case atStart => exact ⟨i, rfl, Nat.le_refl _, by omega, hid (fun j h1 h2 => by omega)⟩
 case round =>
  obtain ⟨k, rfl, hk, hks, hno⟩ := hrel; by_cases h : k + t.size ≤ s.size
  · have hc := HC.out k h; have h2 : ((k : Int) + (t.size : Int)).toNat = k + t.size := by omega
    cases hb : oc k
    · rw [hb] at hc
      have hno2 : Hid (∀ j, i ≤ j → j < k + 1 → oc j = false) := hid (fun j h1 h3 => by
       rcases Nat.lt_or_ge j k with h4 | h4
       · exact hno.out j h1 h4
       · obtain rfl : j = k := by omega
         exact hb)
      clear hb; go_wp2_with fail
      go_round
      case rel => exact ⟨k + 1, by go_num, by omega, by omega, hno2⟩
      case measure => simp [intOf]; omega
    · rw [hb] at hc; have hR := HH.out k hk (by omega) hb hno.out; subst hR; clear hb; go_wp2_with fail; go_ret; exact ⟨rfl, rfl⟩
  · have hR := HM.out (fun j h1 h3 => hno.out j h1 (by omega)); subst hR; have hg : ¬ ((k : Int) + (t.size : Int) ≤ (s.size : Int)) := by omega
    clear h; go_wp2_with fail; go_ret; exact ⟨rfl, rfl⟩
end

/- The document's layer 4: blanks cut off, what stands between quotes, words: contracts. -/
section
open Go.RowKit
set_option maxRecDepth 100000
def trimR (l : List UInt8) : List UInt8 := ((l.dropWhile blankF).reverse.dropWhile blankF).reverse
theorem dropWhile_append_all {p : UInt8 → Bool} : ∀ (a b : List UInt8), (∀ x ∈ a, p x = true) → (a ++ b).dropWhile p = b.dropWhile p
 | [], _, _ => rfl
 | x :: a, b, h => by
   have := dropWhile_append_all a b (fun y hy => h y (List.mem_cons_of_mem _ hy)); rw [List.cons_append, List.dropWhile_cons_of_pos (h x (by simp)), this]
theorem dropWhile_append_some {p : UInt8 → Bool} : ∀ (a b : List UInt8), (∃ x ∈ a, p x = false) → (a ++ b).dropWhile p = a.dropWhile p ++ b
 | [], _, ⟨x, h, _⟩ => by simp at h
 | x :: a, b, h => by
   by_cases hx : p x = true
   · rw [List.cons_append, List.dropWhile_cons_of_pos hx, List.dropWhile_cons_of_pos hx]; refine dropWhile_append_some a b ?_; obtain ⟨y, hy, hp⟩ := h; rcases List.mem_cons.1 hy with rfl | hy
     · rw [hx] at hp; cases hp
     · exact ⟨y, hy, hp⟩
   · rw [List.cons_append, List.dropWhile_cons_of_neg hx, List.dropWhile_cons_of_neg hx]; rfl
def rtrim (p : UInt8 → Bool) (l : List UInt8) : List UInt8 := (l.reverse.dropWhile p).reverse
theorem rtrim_cons {p : UInt8 → Bool} (x : UInt8) (l : List UInt8) : rtrim p (x :: l) = if (∃ y ∈ l, p y = false) then x :: rtrim p l else (if p x = true then [] else [x]) := by
 unfold rtrim; rw [List.reverse_cons]; by_cases h : ∃ y ∈ l, p y = false
 · rw [if_pos h, dropWhile_append_some _ _ (by obtain ⟨y, hy, hp⟩ := h; exact ⟨y, List.mem_reverse.2 hy, hp⟩)]; simp
 · rw [if_neg h, dropWhile_append_all _ _ (fun y hy => by
    rcases hb : p y with _ | _
    · exact absurd ⟨y, List.mem_reverse.1 hy, hb⟩ h
    · rfl)]
   by_cases hx : p x = true
   · rw [List.dropWhile_cons_of_pos hx, if_pos hx]; rfl
   · rw [List.dropWhile_cons_of_neg hx, if_neg hx]; rfl
theorem rtrim_all {p : UInt8 → Bool} {l : List UInt8} (h : ∀ x ∈ l, p x = true) : rtrim p l = [] := by
 unfold rtrim; have := dropWhile_append_all (p := p) l.reverse [] (fun x hx => h x (List.mem_reverse.1 hx)); rw [List.append_nil] at this; rw [this]; rfl
theorem trim_sides {p : UInt8 → Bool} : ∀ l : List UInt8, (rtrim p l).dropWhile p = rtrim p (l.dropWhile p)
 | [] => rfl
 | x :: l => by
   by_cases hx : p x = true
   · rw [List.dropWhile_cons_of_pos hx, ← trim_sides l, rtrim_cons]; by_cases h : ∃ y ∈ l, p y = false
     · rw [if_pos h, List.dropWhile_cons_of_pos hx]
     · rw [if_neg h, if_pos hx, rtrim_all (fun y hy => by
        rcases hb : p y with _ | _
        · exact absurd ⟨y, hy, hb⟩ h
        · rfl)]
   · rw [List.dropWhile_cons_of_neg hx, rtrim_cons]; by_cases h : ∃ y ∈ l, p y = false
     · rw [if_pos h, List.dropWhile_cons_of_neg hx]
     · rw [if_neg h, if_neg hx, List.dropWhile_cons_of_neg hx]
theorem blanks_contains (c : UInt8) : blanks4.contains c = blankF c := by
 have := by_all (fun c => blanks4.contains c == blankF c) (by decide +kernel) c; simpa using this
theorem trimF_R (l : List UInt8) : trimF l = trimR l := by
 have hp : (blanks4.contains ·) = blankF := funext blanks_contains; unfold trimF Lib.trimS Lib.trimLeftS Lib.trimRightS trimR; rw [hp]; exact trim_sides l
theorem dropWhile_front {p : UInt8 → Bool} {c : UInt8} {r : List UInt8} (h : p c = true) : (c :: r).dropWhile p = r.dropWhile p := List.dropWhile_cons_of_pos h
theorem dropWhile_stays {p : UInt8 → Bool} {c : UInt8} {r : List UInt8} (h : p c = false) : (c :: r).dropWhile p = c :: r := List.dropWhile_cons_of_neg (by simp [h])
theorem rtrim_front {p : UInt8 → Bool} {c : UInt8} {r : List UInt8} (h : p c = true) : rtrim p (r ++ [c]) = rtrim p r := by
 unfold rtrim; rw [List.reverse_append]; exact congrArg List.reverse (dropWhile_front h)
theorem rtrim_stays {p : UInt8 → Bool} {c : UInt8} {r : List UInt8} (h : p c = false) : rtrim p (r ++ [c]) = r ++ [c] := by
 unfold rtrim; rw [List.reverse_append]; show ((c :: r.reverse).dropWhile p).reverse = _; rw [dropWhile_stays h]; simp
def strOf : Value → ByteArray
 | .string s => s
 | _ => ⟨#[]⟩
set_option maxHeartbeats 1000000 in
theorem rtrim_ok (s : ByteArray) (w : World) (hs : s.size ≤ 140737488351232) : Calls Tryz.prog 162 #[.string s] w fun e w' => ∃ r : ByteArray, e = .returned (.string r) ∧ r.data.toList = trimF s.data.toList ∧ w = w' := by
 rw [trimF_R]; have hT : trimR s.data.toList = rtrim blankF (s.data.toList.dropWhile blankF) := rfl; rw [hT]; generalize hd : s.data.toList.dropWhile blankF = dl; have HD := hid hd; clear hd hT; go_enter Tryz.func162, Tryz.ntmps162
 go_wp2
 go_loop [0] (fun v => ∃ q : ByteArray, v = .string q ∧ q.size ≤ s.size ∧ Hid (q.data.toList.dropWhile blankF = dl)) (fun v => (strOf v).size)
 case atStart => exact ⟨s, rfl, Nat.le_refl _, HD⟩
 case round =>
  obtain ⟨q, rfl, hq, hx⟩ := hrel; clear HD; by_cases h0 : q.size = 0
  · have hn : q.data.toList = [] := List.eq_nil_of_length_eq_zero (by rw [text_len]; exact h0); have hdl : dl = [] := by rw [← hx.out, hn]; rfl
    subst hdl; clear hx; have HQ : Hid (rtrim blankF q.data.toList = rtrim blankF []) := hid (by rw [hn]); clear hn
    go_wp2
    go_loop [0] (fun v => ∃ q2 : ByteArray, v = .string q2 ∧ q2.size ≤ s.size ∧ Hid (rtrim blankF q2.data.toList = rtrim blankF ([] : List UInt8))) (fun v => (strOf v).size)
    case atStart => exact ⟨q, rfl, hq, HQ⟩
    case round =>
     obtain ⟨q2, rfl, hq2, hx2⟩ := hrel; clear HQ; by_cases h02 : q2.size = 0
     · have hn2 : q2.data.toList = [] := List.eq_nil_of_length_eq_zero (by rw [text_len]; exact h02); have hr2 : Hid (q2.data.toList = rtrim blankF ([] : List UInt8)) := hid (by rw [← hx2.out, hn2]; rfl); clear hx2 hn2; go_wp2_with fail; go_ret; exact ⟨q2, rfl, hr2.out, rfl⟩
     · have hp2 : 0 < q2.size := by omega
       have hlast : q2.data.toList = q2.data.toList.take (q2.size - 1) ++ [q2.data.toList[q2.size - 1]'(by rw [text_len]; omega)] := by
        rw [← List.take_succ_eq_append_getElem, List.take_of_length_le (by rw [text_len]; omega)]
       have hb2 := text_at q2 (q2.size - 1) (by omega); generalize q2.data.toList[q2.size - 1]'(by rw [text_len]; omega) = c at hlast hb2; have hfront := text_front q2 (q2.size - 1); have hidx : ((q2.size : Int) + -1).toNat = q2.size - 1 := by omega
       have hin : (0 : Int) ≤ (q2.size : Int) + -1 := by omega
       have hB := fun u => rblank_ok c u; have hsz2 : (q2.extract 0 (q2.size - 1)).size = q2.size - 1 := by rw [ByteArray.size_extract]; omega
       cases hc : blankF c
       · rw [hc] at hB; have hr2 : Hid (q2.data.toList = rtrim blankF ([] : List UInt8)) := hid (by rw [← hx2.out, hlast, rtrim_stays hc]); have HB := hid hB; clear hB hx2 hlast hc hfront hsz2; go_wp2_with fail; refine (HB.out _).mono ?_; rintro e w1 ⟨rfl, rfl⟩; go_wp2_with fail; go_ret; exact ⟨q2, rfl, hr2.out, rfl⟩
       · rw [hc] at hB; have hr2 : Hid (rtrim blankF (q2.extract 0 (q2.size - 1)).data.toList = rtrim blankF ([] : List UInt8)) := hid (by rw [hfront, ← hx2.out]; conv => rhs; rw [hlast, rtrim_front hc]); have HB := hid hB; have HS2 := hid hsz2; clear hB hx2 hlast hc hfront hsz2; go_wp2_with fail; refine (HB.out _).mono ?_; rintro e w1 ⟨rfl, rfl⟩; go_wp2_with fail
         go_round
         case rel => exact ⟨q2.extract 0 (q2.size - 1), rfl, by rw [HS2.out]; omega, hr2⟩
         case measure => simp only [strOf]; rw [HS2.out]; omega
  · have hp : 0 < q.size := by omega
    obtain ⟨c, r, hl⟩ : ∃ c r, q.data.toList = c :: r := by
     cases h : q.data.toList with
     | nil => have := text_len q; rw [h] at this; simp at this; omega
     | cons c r => exact ⟨c, r, rfl⟩
    have hb := text_at q 0 hp; have hb0 : q[0] = c := by rw [hb]; simp [hl]
    clear hb; have hrest := text_rest q 1; have hsz : (q.extract 1 q.size).size = q.size - 1 := by rw [ByteArray.size_extract]; omega
    have hB := fun u => rblank_ok c u; cases hc : blankF c
    · rw [hc] at hB; have hql : q.data.toList = dl := by rw [← hx.out, hl, dropWhile_stays hc]
      have HQ : Hid (rtrim blankF q.data.toList = rtrim blankF dl) := hid (by rw [hql]); have HB := hid hB; clear hB hx hc hrest hsz hl hql; go_wp2_with fail; refine (HB.out _).mono ?_; rintro e w1 ⟨rfl, rfl⟩
      go_wp2
      go_loop [0] (fun v => ∃ q2 : ByteArray, v = .string q2 ∧ q2.size ≤ s.size ∧ Hid (rtrim blankF q2.data.toList = rtrim blankF dl)) (fun v => (strOf v).size)
      case atStart => exact ⟨q, rfl, hq, HQ⟩
      case round =>
       obtain ⟨q2, rfl, hq2, hx2⟩ := hrel; clear HQ; by_cases h02 : q2.size = 0
       · have hn2 : q2.data.toList = [] := List.eq_nil_of_length_eq_zero (by rw [text_len]; exact h02); have hr2 : Hid (q2.data.toList = rtrim blankF dl) := hid (by rw [← hx2.out, hn2]; rfl); clear hx2 hn2; go_wp2_with fail; go_ret; exact ⟨q2, rfl, hr2.out, rfl⟩
       · have hp2 : 0 < q2.size := by omega
         have hlast : q2.data.toList = q2.data.toList.take (q2.size - 1) ++ [q2.data.toList[q2.size - 1]'(by rw [text_len]; omega)] := by
          rw [← List.take_succ_eq_append_getElem, List.take_of_length_le (by rw [text_len]; omega)]
         have hb2 := text_at q2 (q2.size - 1) (by omega); generalize q2.data.toList[q2.size - 1]'(by rw [text_len]; omega) = c at hlast hb2; have hfront := text_front q2 (q2.size - 1); have hidx : ((q2.size : Int) + -1).toNat = q2.size - 1 := by omega
         have hin : (0 : Int) ≤ (q2.size : Int) + -1 := by omega
         have hB := fun u => rblank_ok c u; have hsz2 : (q2.extract 0 (q2.size - 1)).size = q2.size - 1 := by rw [ByteArray.size_extract]; omega
         cases hc : blankF c
         · rw [hc] at hB; have hr2 : Hid (q2.data.toList = rtrim blankF dl) := hid (by rw [← hx2.out, hlast, rtrim_stays hc]); have HB := hid hB; clear hB hx2 hlast hc hfront hsz2; go_wp2_with fail; refine (HB.out _).mono ?_; rintro e w1 ⟨rfl, rfl⟩; go_wp2_with fail; go_ret; exact ⟨q2, rfl, hr2.out, rfl⟩
         · rw [hc] at hB; have hr2 : Hid (rtrim blankF (q2.extract 0 (q2.size - 1)).data.toList = rtrim blankF dl) := hid (by rw [hfront, ← hx2.out]; conv => rhs; rw [hlast, rtrim_front hc]); have HB := hid hB; have HS2 := hid hsz2; clear hB hx2 hlast hc hfront hsz2; go_wp2_with fail; refine (HB.out _).mono ?_; rintro e w1 ⟨rfl, rfl⟩; go_wp2_with fail
           go_round
           case rel => exact ⟨q2.extract 0 (q2.size - 1), rfl, by rw [HS2.out]; omega, hr2⟩
           case measure => simp only [strOf]; rw [HS2.out]; omega
    · rw [hc] at hB; have hr2 : Hid ((q.extract 1 q.size).data.toList.dropWhile blankF = dl) := hid (by rw [hrest, ← hx.out, hl, dropWhile_front hc]; rfl); have HB := hid hB; have HS := hid hsz; clear hB hx hc hrest hsz hl; go_wp2_with fail; refine (HB.out _).mono ?_; rintro e w1 ⟨rfl, rfl⟩; go_wp2_with fail
      go_round
      case rel => exact ⟨q.extract 1 q.size, rfl, by rw [HS.out]; omega, hr2⟩
      case measure => simp only [strOf]; rw [HS.out]; omega
end

/- A statement's tokens, by package lex: contract. -/
section
open Go.RowKit
set_option maxRecDepth 100000
def lexA (l : List UInt8) : List (Int × List UInt8) × Int := if 200 < l.length then ([], 4) else match lexF l with | none => ([], 2) | some x => (x, 0)
def LexTo (f : FuncId) (e : TypeId) (s : ByteArray) (w : World) : Prop :=
 Calls Tryz.prog f #[.string s] w fun x w' => ∃ A n c er ts, x = .returned (.tuple #[.slice A n c, .int .i64 er]) ∧ OT e w' w.heap.size A n c ts ∧ (saysT ts, er) = lexA s.data.toList ∧ Below w.heap.size w w'
theorem firstF_size {l : List UInt8} (k : Nat) (t : List UInt8) (n : Nat) (h : firstF l = some (k, t, n)) : 1 ≤ n ∧ n ≤ l.length := by
 cases l with
 | nil => simp [firstF] at h
 | cons c r =>
   simp only [firstF] at h; split at h
   · rename_i hc
     simp only [Option.some.injEq, Prod.mk.injEq] at h; obtain ⟨_, _, rfl⟩ := h; have hl : lodF c = true := by simp [lodF, hc]
     have := runF_le lodF (c :: r); rw [runF_some hl] at this ⊢; omega
   split at h
   · rename_i hc
     simp only [Option.some.injEq, Prod.mk.injEq] at h; obtain ⟨_, _, rfl⟩ := h; have := runF_le digitF (c :: r); rw [runF_some hc] at this ⊢; omega
   split at h
   · obtain ⟨x, hx, h⟩ := Option.map_eq_some_iff.1 h; have := quotedF_le hx; simp only [Prod.mk.injEq] at h; simp; omega
   split at h
   · obtain ⟨x, hx, h⟩ := Option.map_eq_some_iff.1 h; have := quotedF_le hx; simp only [Prod.mk.injEq] at h; simp; omega
   split at h
   · rename_i hb
     have h3 := (List.isPrefixOf_iff_prefix.1 hb).length_le; have := closedF_le (c :: r) 3 (by simpa using h3); split at h
     · cases h
     · simp only [Option.some.injEq, Prod.mk.injEq] at h; obtain ⟨_, _, rfl⟩ := h; omega
   split at h
   · simp only [Option.some.injEq, Prod.mk.injEq] at h; simp; omega
   · cases h
set_option maxHeartbeats 2000000 in
theorem lex_ok (s : ByteArray) (w : World) (hm : s.size ≤ maxLen) (hL : Lw w) : LexTo 47 142 s w := by
 unfold LexTo; unfold maxLen at hm; by_cases hlong : 200 < s.size
 · have hA : lexA s.data.toList = ([], 4) := by unfold lexA; rw [text_len, if_pos hlong]
   have HA := hid hA; clear hA; go_enter Tryz.func47, Tryz.ntmps47; go_wp2_with fail
   go_step3
   go_wp2_with fail; rw [Exit.noGoto_ret]; go_ret2; exact ⟨none, 0, 0, 4, [], rfl, OT.nil _ _ _, by rw [HA.out]; rfl, Below.refl _ _⟩
 have hA : ∀ R, lexF s.data.toList = R → lexA s.data.toList = (match R with | none => ([], 2) | some x => (x, 0)) := fun R h => by unfold lexA; rw [text_len, if_neg hlong, h]
 generalize hR0 : lexF s.data.toList = R at hA; have hA1 := hA R rfl; have HA := hid hA1; have HR := hid hR0; have hlen := hid (text_len s); clear hA hA1 hR0; obtain ⟨i0, hi, hz0, hz1, hz2⟩ := info_parts tkinfo; go_enter Tryz.func47, Tryz.ntmps47; go_wp2_with fail
 go_step3
 go_wp2_with fail
 go_step3
 go_wp2_with fail
 go_loopw [4, 5] (fun l4 at_ wr => ∃ (k : Nat) (A : Option Addr) (n c : Nat) (ts : List Tk), at_ = .int .i64 k ∧ k ≤ s.size ∧ l4 = .slice A n c ∧ OT 142 wr w.heap.size A n c ts ∧ n ≤ k ∧ Hid (R = (lexF (s.data.toList.drop k)).map (saysT ts ++ ·)) ∧ Below w.heap.size w wr) (fun _ at_ _ => s.size - (intOf at_).toNat)
 case atStart => exact ⟨0, none, 0, 0, [], rfl, Nat.zero_le _, rfl, OT.nil _ _ _, Nat.le_refl _, hid (by rw [← HR.out]; simp [saysT]), Below.refl _ _⟩
 case round =>
  obtain ⟨k, A, n, c, ts, rfl, hks, rfl, ho, hnk, hx, kw⟩ := hrel; clear HR; by_cases hlt : k < s.size
  · have hL1 := hL.next kw; have hkl : k < s.data.toList.length := by rw [hlen.out]; exact hlt
    have hrest := text_rest s k; have hcons : s.data.toList.drop k = s.data.toList[k] :: s.data.toList.drop (k + 1) := List.drop_eq_getElem_cons hkl; have hne : s.data.toList.drop k ≠ [] := by rw [hcons]; simp
    have hdl : (s.data.toList.drop k).length = s.size - k := by rw [List.length_drop, hlen.out]
    have hsz : (s.extract k s.size).size = s.size - k := by rw [ByteArray.size_extract]; omega
    have hdd : ∀ j, (s.data.toList.drop k).drop j = s.data.toList.drop (k + j) := fun j => by rw [List.drop_drop]
    generalize s.data.toList[k] = b at hcons; generalize s.data.toList.drop (k + 1) = r' at hcons; generalize hD : s.data.toList.drop k = l at hrest hcons hne hdl hdd hx
    have hb0 : ∀ h, (s.extract k s.size)[0]'h = b := fun h => by
     have e0 : (s.extract k s.size).data.toList[0]? = some b := by rw [hrest, hcons]; rfl
     rw [text_at _ 0 h]; exact (List.getElem?_eq_some_iff.1 e0).2
    generalize hE : s.extract k s.size = q at hrest hsz hb0; have hq0 : 0 < q.size := by omega
    have hqs : q.size ≤ 200 := by omega
    have HS := hid hsz; have HD := hid hdd; have HRest := hid hrest; have HC := hid hcons; have hdl2 : l.length = q.size := by omega
    have HDL := hid hdl2; have HNE := hid hne; have hskip : ∀ j, j ≠ 0 → stepF l = .skip j → Hid (R = (lexF (s.data.toList.drop (k + j))).map (saysT ts ++ ·)) := fun j hj hs => hid (by rw [hx.out, lexF_skip hne hs hj, hdd]); have htok : ∀ (j kd : Nat) (t : List UInt8), j ≠ 0 → stepF l = .tok kd t j → Hid (R = ((lexF (s.data.toList.drop (k + j))).map (((kd : Int), t) :: ·)).map (saysT ts ++ ·)) := fun j kd t hj hs => hid (by rw [hx.out, lexF_tok hne hs hj, hdd]); have hbad : stepF l = .bad → R = none := fun hs => by rw [hx.out, lexF_bad hne hs]; rfl
    have HSkip := hid hskip; have HTok := hid htok; have HBad := hid hbad; clear hskip htok hbad hsz hdd hrest hcons hdl hdl2 hne hD; have H1 := fun u => isBlank_ok b u; by_cases h1 : blankF b = true
    · rw [h1] at H1; have H1' := hid H1; have hx2 := HSkip.out 1 (by omega) (by rw [HC.out, stepF, if_pos h1]); clear H1 h1 hx; go_wp2_with fail; refine (H1'.out _).mono ?_; rintro e w1 ⟨rfl, rfl⟩; go_wp2_with fail; go_roundw
      case rel => exact ⟨k + 1, A, n, c, ts, by go_num, by omega, rfl, ho, by omega, hx2, kw⟩
      case measure => simp [intOf]; omega
    have h1f : blankF b = false := by simpa using h1
    rw [h1f] at H1; have H1' := hid H1; have H2 := fun u => beginsLine_ok q u hq0; rw [HRest.out] at H2; clear H1; by_cases h2 : isLineF l = true
    · rw [h2] at H2; have H2' := hid H2; have hi10 := fun u => indexByte_s q 10 u; rw [HRest.out] at hi10
      have hst : stepF l = .skip (lineF l) := by
       rw [HC.out] at h2 ⊢; rw [stepF, if_neg h1, if_pos h2]
      have hlf : lineF l = if Lib.indexByte l 10 < 0 then l.length else (Lib.indexByte l 10).toNat := rfl; have hlt10 := fun h => indexByte_lt (l := l) (c := 10) h
      have h35 : 0 ≤ Lib.indexByte l 10 → (Lib.indexByte l 10).toNat ≠ 0 := fun h => by
       have h10 : b ≠ 10 := by
        intro e; subst e
        revert h1
        decide
       rw [HC.out, Lib.indexByte]; rw [HC.out, Lib.indexByte] at h; have hb10 : (b == 10) = false := by simpa using h10
       rw [hb10] at h ⊢; simp only [Bool.false_eq_true, if_false] at h ⊢; split at h
       · omega
       · have := indexByte_lt.indexByte_ge1 r' 10
         rename_i hne
         rw [if_neg hne]; have hne2 : Lib.indexByte r' 10 ≠ -1 := by simpa using hne
         omega
      have e10 : ((10 : UInt8).toNat : Int) = 10 := rfl; rw [e10] at hi10; generalize Lib.indexByte l 10 = x at hi10 hlf hlt10 h35; have HI := hid hi10; by_cases hx0 : x < 0
      · rw [if_pos hx0, HDL.out] at hlf; rw [hlf] at hst; have hx2 := HSkip.out q.size (by omega) hst; rw [List.drop_eq_nil_of_le (by rw [hlen.out]; have := HS.out; omega), lexF_nil] at hx2; have hR : R = some (saysT ts) := by rw [hx2.out]; simp
        subst hR; clear H2 h2 h1 hi10 hx hst hlf hlt10 h35 hx2; go_wp2_with fail; refine (H1'.out _).mono ?_; rintro e w1 ⟨rfl, rfl⟩; go_wp2_with fail; refine (H2'.out _).mono ?_; rintro e w1 ⟨rfl, rfl⟩; go_wp2_with fail; refine (HI.out _).mono ?_; rintro e w1 ⟨rfl, rfl⟩; go_wp2_with fail
        try rw [Exit.noGoto_ret]
        go_ret2; exact ⟨A, n, c, 0, ts, rfl, ho, by rw [HA.out], kw⟩
      · obtain ⟨m, rfl⟩ : ∃ m : Nat, x = m := ⟨x.toNat, by omega⟩; rw [if_neg hx0, Int.toNat_natCast] at hlf; rw [hlf] at hst; have hm0 := h35 (by omega); have hml := hlt10 (by omega); rw [Int.toNat_natCast] at hm0 hml; rw [HDL.out, HS.out] at hml; have hx2 := HSkip.out m hm0 hst; clear H2 h2 h1 hi10 hx hst hlf hlt10 h35; go_wp2_with fail; refine (H1'.out _).mono ?_; rintro e w1 ⟨rfl, rfl⟩; go_wp2_with fail; refine (H2'.out _).mono ?_; rintro e w1 ⟨rfl, rfl⟩; go_wp2_with fail; refine (HI.out _).mono ?_; rintro e w1 ⟨rfl, rfl⟩; go_wp2_with fail; go_roundw
        case rel => exact ⟨k + m, A, n, c, ts, by go_num, by omega, rfl, ho, by omega, hx2, kw⟩
        case measure => simp [intOf]; omega
    have h2f : isLineF l = false := by simpa using h2
    rw [h2f] at H2; have H2' := hid H2; clear H2; have H3 := fun u => beginsRemark_ok q u; rw [HRest.out] at H3; by_cases h3 : isRemarkF l = true
    · rw [h3] at H3; have H3' := hid H3
      have h2q : 2 ≤ q.size := by
       rw [← HDL.out]
       have h4 : begF [47, 42] l = true := by
        unfold isRemarkF at h3; simp at h3
        exact h3.1
       have := (List.isPrefixOf_iff_prefix.1 h4).length_le; simpa using this
      have hC := closedSize_ok q 2 wr (by omega) h2q hL1; rw [HRest.out] at hC
      have hst : stepF l = if closedF l 2 = 0 then .bad else .skip (closedF l 2) := by
       rw [HC.out] at h2 h3 ⊢; rw [stepF, if_neg h1, if_neg h2, if_pos h3]
      have hle := closedF_le l 2 (by rw [HDL.out]; exact h2q); rw [HDL.out] at hle; generalize closedF l 2 = m at hC hst hle; have HCl := hid hC; by_cases hm0 : m = 0
      · subst hm0; rw [if_pos rfl] at hst; have hR := HBad.out hst; subst hR; clear H3 h3 h2 h2f h1 h1f hC hst hx hle; go_wp2_with fail; refine (H1'.out _).mono ?_; rintro e w1 ⟨rfl, rfl⟩; go_wp2_with fail; refine (H2'.out _).mono ?_; rintro e w1 ⟨rfl, rfl⟩; go_wp2_with fail; refine (H3'.out _).mono ?_; rintro e w1 ⟨rfl, rfl⟩; go_wp2_with fail; refine HCl.out.mono ?_; rintro e w1 ⟨rfl, rfl⟩; go_wp2_with fail
        try rw [Exit.noGoto_ret]
        go_ret2; exact ⟨none, 0, 0, 2, [], rfl, OT.nil _ _ _, by rw [HA.out]; rfl, kw⟩
      · rw [if_neg hm0] at hst; have hx2 := HSkip.out m hm0 hst; have hml := hle.1; rw [HS.out] at hml; clear H3 h3 h2 h2f h1 h1f hC hst hx hle; go_wp2_with fail; refine (H1'.out _).mono ?_; rintro e w1 ⟨rfl, rfl⟩; go_wp2_with fail; refine (H2'.out _).mono ?_; rintro e w1 ⟨rfl, rfl⟩; go_wp2_with fail; refine (H3'.out _).mono ?_; rintro e w1 ⟨rfl, rfl⟩; go_wp2_with fail; refine HCl.out.mono ?_; rintro e w1 ⟨rfl, rfl⟩; go_wp2_with fail; go_roundw
        case rel => exact ⟨k + m, A, n, c, ts, by go_num, by omega, rfl, ho, by omega, hx2, kw⟩
        case measure => simp [intOf]; omega
    have h3f : isRemarkF l = false := by simpa using h3
    rw [h3f] at H3; have H3' := hid H3; clear H3; have hFi := first_ok q b r' wr (by omega) (by rw [HRest.out]; exact HC.out) hL1; unfold tokV at hFi; rw [HRest.out] at hFi; have HFi := hid hFi
    have hst : stepF l = match firstF l with | none => .bad | some (kd, t, m) => .tok kd t m := by
     rw [HC.out] at h2 h3 ⊢; rw [stepF, if_neg h1, if_neg h2, if_neg h3]
     all_goals (cases firstF (b :: r') <;> rfl)
    have hfi : firstI l = (firstF l).map fun x => ((x.1 : Int), x.2.1, x.2.2) := rfl; have hsizes := firstF_size (l := l); rw [hfi] at HFi; rw [HDL.out, HS.out] at hsizes
    cases hff : firstF l with
    | none =>
      rw [hff] at hst HFi; have hR := HBad.out hst; subst hR; clear h3 h3f h2 h2f h1 h1f hst hx hFi hfi hsizes; go_wp2_with fail; refine (H1'.out _).mono ?_; rintro e w1 ⟨rfl, rfl⟩; go_wp2_with fail; refine (H2'.out _).mono ?_; rintro e w1 ⟨rfl, rfl⟩; go_wp2_with fail; refine (H3'.out _).mono ?_; rintro e w1 ⟨rfl, rfl⟩; go_wp2_with fail; refine HFi.out.mono ?_; rintro e w1 ⟨k1, r1, n1, rfl, ⟨rfl, rfl, rfl⟩, b1⟩; go_wp2_with fail
      try rw [Exit.noGoto_ret]
      go_ret2; exact ⟨none, 0, 0, 2, [], rfl, OT.nil _ _ _, by rw [HA.out]; rfl, kp_alloc (kp_trans kw b1) _⟩
    | some x =>
      obtain ⟨kd, t, m⟩ := x; rw [hff] at hst HFi; obtain ⟨hm0, hml⟩ := hsizes kd t m hff; have hx2 := HTok.out m kd t (by omega) hst; have hmn : ¬ (m : Int) = 0 := by omega
      have hmb : ((m : Int) == 0) = false := by simp only [beq_eq_false_iff_ne, ne_eq]; exact hmn
      clear h3 h3f h2 h2f h1 h1f hst hx hFi hfi hsizes hff hmn; go_wp2_with fail; refine (H1'.out _).mono ?_; rintro e w1 ⟨rfl, rfl⟩; go_wp2_with fail; refine (H2'.out _).mono ?_; rintro e w1 ⟨rfl, rfl⟩; go_wp2_with fail; refine (H3'.out _).mono ?_; rintro e w1 ⟨rfl, rfl⟩; go_wp2_with fail; refine HFi.out.mono ?_; rintro e w1 ⟨k1, r1, n1, rfl, ⟨rfl, hr1, rfl⟩, b1⟩; have ho1 := ho.next b1; have kw1 := kp_trans kw b1
      have hsrc : ∀ X, Rd ((w1.alloc X).alloc (.cells #[.int .i64 (kd : Int), .string r1] 142)) (w1.heap.size + 1 + 1) (some ⟨w1.heap.size + 1, 0, none⟩) [.int .i64 (kd : Int), .string r1] := fun X => by
       have := Rd.new (w1.alloc X) 142 [.int .i64 (kd : Int), .string r1]; simpa using this
      have HSRC := hid hsrc; have hsw := kw1.size; clear hsrc; go_wp2_with (at_builtin; refine wpList_append_rds rfl _ _ _ rfl w.heap.size 142 i0 _ 2 24 Tryz.underlying119 hi hz0 hz1 hz2 rfl (by omega) _ n _ rfl ((ho1.own.alloc _).alloc _) _ _ _ _ [.int .i64 (kd : Int), .string r1] rfl rfl (HSRC.out _) (by simp [Value.oneCell']) (by unfold maxLen; omega) (by omega) (by simp; omega) ?_; intro v3 w3 hown3 hg3; obtain ⟨A3, c3, rfl, ho3⟩ := OT.push hown3); go_roundw
      case rel => exact ⟨k + n1, A3, n + 1, c3, ts ++ [⟨kd, r1⟩], by go_num, by omega, rfl, ho3, by omega, hid (by rw [hx2.out, saysT_append]; cases lexF (s.data.toList.drop (k + n1)) <;> simp [saysT, Tk.says, hr1]), (kp_alloc (kp_alloc kw1 _) _).trans (below_own_s ((ho1.own.alloc _).alloc _) hg3 (by simp; omega))⟩
      case measure => simp [intOf]; omega
  · obtain rfl : k = s.size := by omega
    have hR : R = some (saysT ts) := by rw [hx.out, List.drop_eq_nil_of_le (by rw [hlen.out]; exact Nat.le_refl _), lexF_nil]; simp
    subst hR; clear hx; go_wp2_with fail
    try rw [Exit.noGoto_ret]
    go_ret2; exact ⟨A, n, c, 0, ts, rfl, ho, by rw [HA.out], kw⟩
end

/- Which tokens may be, by package lex: contracts. -/
section
open Go.RowKit
set_option maxRecDepth 100000
def rightWordF : List UInt8 → Bool
 | [] => false
 | c :: r => letterF c && (decide (runF lodF (c :: r) = (c :: r).length) && decide (greatF (c :: r) = c :: r))
def rightF (k : Int) (l : List UInt8) : Bool :=
 if k = 1 then rightWordF l
 else if k = 2 ∨ k = 3 then true
 else if k = 4 then decide (l ≠ []) && decide (runF digitF l = l.length)
 else if k = 5 then !Lib.contains l ends2 && decide (trimF l = l)
 else if k = 6 then (match l with | [c] => signF c | _ => false)
 else false
end

/- A region that draws its order, gone through once an operation, not once an order: each operation leaves a fact that no later call breaks. -/
section
open Go.RowKit
def dstOf (ops : Array Oper) (j : Nat) : Option Tmp := (ops[j]?).bind (·.dst)
def waitsFor (ops : Array Oper) (o : Oper) : List Nat := (o.after.toList.filter (Region.binds .any)).filterMap fun e => dstOf ops e.on
def dstsOf (ops : Array Oper) : List Nat := ops.toList.filterMap (·.dst)
structure Stand (ops : Array Oper) (a0 a : Act) : Prop where
 size : a.tmps.size = a0.tmps.size
 defers : a.defers = a0.defers
 out : ∀ t, (dstsOf ops).contains t = false → a.tmps.getD t undef = a0.tmps.getD t undef
theorem gd {a : Act} {t : Nat} {v : Value} (h : a.tmps.getD t undef = v) : a.tmps[t]?.getD undef = v := by rw [← Array.getD_eq_getD_getElem?]; exact h
def Wants (ops : Array Oper) (a : Act) (o : Oper) : Prop :=
 match o.guard with
 | none => True
 | some (j, b) => ∃ t, dstOf ops j = some t ∧ a.tmps.getD t undef = .bool b
theorem wants {ops : Array Oper} {a : Act} {o : Oper} (h : Wants ops a o) : Region.wanted o (yielded ops a.tmps) = true := by
 unfold Wants at h; unfold Region.wanted; split at h
 · rename_i hg; rw [hg]
 · rename_i j b hg
   obtain ⟨t, ht, hv⟩ := h; rw [hg]
   have hlt : t < a.tmps.size := by
    rcases Nat.lt_or_ge t a.tmps.size with h | h
    · exact h
    · rw [Array.getD_eq_getD_getElem?, Array.getElem?_eq_none h] at hv; simp [undef] at hv
   rw [Array.getD_eq_getD_getElem?, Array.getElem?_eq_getElem hlt] at hv; simp only [Option.getD_some] at hv; unfold dstOf at ht; simp [yielded, ht, Array.getElem?_eq_getElem hlt, hv]
def EachOp (C : Nat → Oper → Prop) : Nat → List Oper → Prop
 | _, [] => True
 | k, o :: r => C k o ∧ EachOp C (k + 1) r
theorem EachOp.cons {C : Nat → Oper → Prop} {k : Nat} {o : Oper} {r : List Oper} (h : C k o) (t : EachOp C (k + 1) r) : EachOp C k (o :: r) := ⟨h, t⟩
theorem EachOp.nil {C : Nat → Oper → Prop} {k : Nat} : EachOp C k [] := trivial
theorem EachOp.at_ {C : Nat → Oper → Prop} : ∀ {l : List Oper} {k : Nat}, EachOp C k l → ∀ (i : Nat) (o : Oper), l[i]? = some o → C (k + i) o
 | [], _, _, i, o, h => by simp at h
 | x :: r, k, hh, 0, o, h => by simp at h; subst h; exact hh.1
 | x :: r, k, hh, i + 1, o, h => by
   have := EachOp.at_ hh.2 i o (by simpa using h); rwa [show k + 1 + i = k + (i + 1) by omega] at this
theorem filter_lt {l : List Nat} {p q : Nat → Bool} (h : ∀ x, q x = true → p x = true) {i : Nat} (hi : i ∈ l) (hp : p i = true) (hq : q i = false) : (l.filter q).length < (l.filter p).length := by
 induction l with
 | nil => simp at hi
 | cons x r ih =>
   have hle : (r.filter q).length ≤ (r.filter p).length := by
    clear ih hi
    induction r with
    | nil => simp
    | cons y r ih =>
      rw [List.filter_cons, List.filter_cons]; by_cases hy : q y = true
      · rw [if_pos hy, if_pos (h y hy)]; simp; exact ih
      · rw [if_neg hy]; split
        · simp; omega
        · exact ih
   rcases List.mem_cons.1 hi with rfl | hi
   · rw [List.filter_cons, List.filter_cons, if_pos hp, if_neg (by simp [hq])]; simp; omega
   · have := ih hi; rw [List.filter_cons, List.filter_cons]; by_cases hx : q x = true
     · rw [if_pos hx, if_pos (h x hx)]; simp; exact this
     · rw [if_neg hx]; split
       · simp; omega
       · exact this
section
variable {P : Program} {ops : Array Oper} {Q : Exit → Act → World → Prop}
def laterOf (ops : Array Oper) (i : Nat) : List Nat := (ops.toList.filter fun o => o.after.any fun e => Region.binds .any e && e.on == i).filterMap (·.dst)
structure StandI (ops : Array Oper) (i : Nat) (a0 a : Act) : Prop extends Stand ops a0 a where
 old : ∀ t, (laterOf ops i).contains t = true → a.tmps.getD t undef = a0.tmps.getD t undef
end
def AllV (a : Act) : List (Nat × Value) → Prop
 | [] => True
 | (t, v) :: r => a.tmps.getD t undef = v ∧ AllV a r
theorem setAll_eq {b : Array Value} : ∀ (vals : List (Nat × Value)) (ts : Array Value), ts.size = b.size → (∀ p ∈ vals, b.getD p.1 undef = p.2) → (∀ t, (∀ p ∈ vals, p.1 ≠ t) → ts.getD t undef = b.getD t undef) →
 vals.foldl (fun ts p => ts.setIfInBounds p.1 p.2) ts = b
 | [], ts, hs, _, h => by
   apply Array.ext hs; intro i h1 h2; have := h i (by simp); rw [Array.getD_eq_getD_getElem?, Array.getD_eq_getD_getElem?, Array.getElem?_eq_getElem h1, Array.getElem?_eq_getElem h2] at this; simpa using this
 | p :: r, ts, hs, hv, h => by
   rw [List.foldl_cons]; refine setAll_eq r (ts.setIfInBounds p.1 p.2) (by simpa using hs) (fun q hq => hv q (List.mem_cons_of_mem _ hq)) fun t ht => ?_; by_cases hpt : p.1 = t
   · subst hpt; rw [hv p (by simp)]; by_cases hlt : p.1 < ts.size
     · simp [Array.getD_eq_getD_getElem?, hlt]
     · have h1 := hv p (by simp); have e : b.getD p.1 undef = undef := by simp [Array.getD_eq_getD_getElem?, show b.size ≤ p.1 by omega]
       rw [e] at h1; simp [Array.getD_eq_getD_getElem?, hlt, ← h1]
   · rw [← h t (fun q hq => by
      rcases List.mem_cons.1 hq with rfl | hq
      · exact hpt
      · exact ht q hq)]
     simp [Array.getD_eq_getD_getElem?, Array.getElem?_setIfInBounds_ne hpt]
theorem AllV.mem {a : Act} : ∀ {vals : List (Nat × Value)}, AllV a vals → ∀ p ∈ vals, a.tmps.getD p.1 undef = p.2
 | [], _, p, hp => by simp at hp
 | (t, v) :: r, h, p, hp => by
   rcases List.mem_cons.1 hp with rfl | hp
   · exact h.1
   · exact AllV.mem h.2 p hp
theorem Stand.frame {ops : Array Oper} {a0 a : Act} (h : Stand ops a0 a) (vals : List (Nat × Value)) (hd : ((dstsOf ops).all fun t => (vals.map Prod.fst).contains t) = true) (hv : AllV a vals) :
 a = { tmps := vals.foldl (fun ts p => ts.setIfInBounds p.1 p.2) a0.tmps, defers := a0.defers } := by
 have e := setAll_eq (b := a.tmps) vals a0.tmps h.size.symm hv.mem fun t ht => by
  refine (h.out t ?_).symm; rw [Bool.eq_false_iff]; intro hc; have h1 := List.all_eq_true.1 hd t (by simpa using hc); obtain ⟨p, hp, rfl⟩ := List.mem_map.1 (show t ∈ vals.map Prod.fst by simpa using h1); exact ht p hp rfl
 cases a; simp only [Act.mk.injEq]; exact ⟨e.symm, h.defers⟩
end

/- Which tokens may be, by package lex: numbers and hints, whose tests are in an order that Go leaves open. -/
section
open Go.RowKit
set_option maxRecDepth 100000
end

/- What is written of tokens, by package lex: contracts. -/
section
open Go.RowKit
set_option maxRecDepth 100000
def twiceF (q : UInt8) : List UInt8 → List UInt8
 | [] => []
 | b :: r => if b = q then q :: q :: twiceF q r else b :: twiceF q r
theorem twiceF_length (q : UInt8) : ∀ l, (twiceF q l).length ≤ 2 * l.length
 | [] => by simp [twiceF]
 | b :: r => by
   have := twiceF_length q r; unfold twiceF; split <;> simp <;> omega
theorem twiceF_take (q : UInt8) : ∀ (l : List UInt8) (k : Nat), (∀ j (h : j < l.length), j < k → l[j] ≠ q) → k ≤ l.length → twiceF q l = l.take k ++ twiceF q (l.drop k)
 | l, 0, _, _ => by simp
 | [], k + 1, _, h => by simp at h
 | b :: r, k + 1, h, hk => by
   have h0 : b ≠ q := h 0 (by simp) (by omega); have := twiceF_take q r k (fun j hj hjk => h (j + 1) (by simpa using hj) (by omega)) (by simpa using hk); rw [twiceF, if_neg h0, this]; simp
theorem index_one (l : List UInt8) (q : UInt8) : (Lib.index l [q] = -1 ∧ (∀ b ∈ l, b ≠ q)) ∨ ∃ i : Nat, ∃ h : i < l.length, Lib.index l [q] = i ∧ l[i] = q ∧ ∀ j (hj : j < l.length), j < i → l[j] ≠ q := by
 induction l with
 | nil => exact .inl ⟨rfl, fun b h => by simp at h⟩
 | cons b r ih =>
   by_cases hb : b = q
   · subst hb; refine .inr ⟨0, by simp, ?_, rfl, fun j _ hj => by omega⟩; unfold Lib.index; rw [if_pos (by simp)]; rfl
   · have hp : [q].isPrefixOf (b :: r) = false := by
      rw [List.isPrefixOf]; simp; exact fun h => hb h.symm
     rcases ih with ⟨h1, h2⟩ | ⟨i, hi, h1, h2, h3⟩
     · refine .inl ⟨?_, fun c hc => ?_⟩
       · unfold Lib.index; rw [hp, h1]; rfl
       · rcases List.mem_cons.1 hc with rfl | hc
         · exact hb
         · exact h2 c hc
     · refine .inr ⟨i + 1, by simpa using hi, ?_, by simpa using h2, fun j hj hji => ?_⟩
       · unfold Lib.index; rw [hp, h1]; have : ((i : Int) == -1) = false := by rw [beq_eq_false_iff_ne]; omega
         simp [this]
       · cases j with
         | zero => exact hb
         | succ j => exact h3 j (by simpa using hj) (by omega)
theorem replaceK_none (q : UInt8) (k : Nat) (l : List UInt8) (h : Lib.index l [q] = -1) : Lib.replaceK [q] [q, q] k l = l := by
 cases k with
 | zero => rfl
 | succ k => rw [Lib.replaceK, if_pos (beq_iff_eq.2 h)]
theorem replaceK_twice (q : UInt8) : ∀ (n : Nat) (l : List UInt8) (k : Nat), l.length ≤ n → Lib.count l [q] ≤ k → Lib.replaceK [q] [q, q] k l = twiceF q l := by
 intro n
 induction n with
 | zero =>
   intro l k hl _; obtain rfl : l = [] := List.eq_nil_of_length_eq_zero (by omega); rw [replaceK_none q k [] rfl]; rfl
 | succ n ih =>
   intro l k hl hc; rcases index_one l q with ⟨h1, h2⟩ | ⟨i, hi, h1, h2, h3⟩
   · rw [replaceK_none q k l h1, twiceF_take q l l.length (fun j hj _ => h2 _ (List.getElem_mem hj)) (Nat.le_refl _)]; simp [twiceF]
   · rw [Lib.count_hit (by simp) h1] at hc; obtain ⟨k', rfl⟩ : ∃ k', k = k' + 1 := ⟨k - 1, by omega⟩; rw [Lib.replaceK_hit _ _ _ _ _ h1, ih (l.drop (i + [q].length)) k' (by rw [List.length_drop]; simp; omega) (by omega)]; rw [twiceF_take q l i h3 (by omega), List.drop_eq_getElem_cons hi, h2]; simp [twiceF]
theorem replaceAll_twice (q : UInt8) (l : List UInt8) : Lib.replaceAll l [q] [q, q] = twiceF q l := by
 unfold Lib.replaceAll Lib.replace; rw [if_neg (by simp)]; unfold Lib.replaceNum; rw [if_pos (.inl (by decide))]; exact replaceK_twice q l.length l _ (Nat.le_refl _) (Nat.le_refl _)
theorem twice_s (q : UInt8) (s old new : ByteArray) (w : World) (hL : Lw w) (hs : s.size ≤ 1000000) (ho : old.data.toList = [q]) (hn : new.data.toList = [q, q]) :
 Calls Tryz.prog 220 #[.string s, .string old, .string new] w fun e w' => ∃ r : ByteArray, e = .returned (.string r) ∧ r.data.toList = twiceF q s.data.toList ∧ Below w.heap.size w w' := by
 obtain ⟨m, hm⟩ := hL; have o1 : old.size = 1 := by rw [← text_len, ho]; rfl
 have n2 : new.size = 2 := by rw [← text_len, hn]; rfl
 have hc := Lib.countB_mul_le old (by omega) s.size s (Nat.le_refl _); rw [o1, Nat.mul_one] at hc; refine (Tryz.strings_ReplaceAll s old new m w (by omega) hm (by omega) (by rw [n2]; omega)).mono fun e w' ⟨he, hb⟩ => ⟨_, he, ?_, hb⟩; rw [ho, hn, replaceAll_twice]
theorem text_add (a b : ByteArray) : (a ++ b).data.toList = a.data.toList ++ b.data.toList := by simp
def quoteF (q : UInt8) (l : List UInt8) : List UInt8 := q :: twiceF q l ++ [q]
set_option maxHeartbeats 400000 in
theorem quote_ok (q : UInt8) (s mark : ByteArray) (hq : mark.data.toList = [q]) (w : World) (hL : Lw w) (hs : s.size ≤ 1000000) :
 Calls Tryz.prog 219 #[.string s, .string mark] w fun e w' => ∃ r : ByteArray, e = .returned (.string r) ∧ r.data.toList = quoteF q s.data.toList ∧ Below w.heap.size w w' := by
 have hms : mark.size = 1 := by rw [← text_len, hq]; rfl
 go_enter Tryz.func219, Tryz.ntmps219; go_wp2_with fail; refine (twice_s q s mark (mark ++ mark) w hL hs hq (by rw [text_add, hq]; rfl)).mono ?_; rintro e w1 ⟨r, rfl, hr, k1⟩
 have hrs : r.size ≤ 2000000 := by
  have h1 := twiceF_length q s.data.toList; have h2 := text_len s; have h3 := text_len r; rw [hr] at h3; omega
 have hms2 : (mark ++ r).size ≤ 2000001 := by rw [ByteArray.size_append]; omega
 go_wp2_with fail; go_ret; exact ⟨_, rfl, by rw [text_add, text_add, hr, hq]; rfl, k1⟩
def writtenF (k : Int) (l : List UInt8) : List UInt8 :=
 if k = 1 ∨ k = 4 ∨ k = 6 then l
 else if k = 2 then quoteF 34 l
 else if k = 3 then quoteF 39 l
 else if k = 5 then [47, 42, 43, 32] ++ l ++ [32] ++ [42, 47]
 else []
theorem writtenF_length (k : Int) (l : List UInt8) : (writtenF k l).length ≤ 2 * l.length + 7 := by
 have h1 := twiceF_length 34 l; have h2 := twiceF_length 39 l; unfold writtenF quoteF; split
 · omega
 split
 · simp; omega
 split
 · simp; omega
 split
 · simp; omega
 · simp
set_option maxHeartbeats 1000000 in
theorem written_ok (k : Int) (s : ByteArray) (w : World) (hL : Lw w) (hs : s.size ≤ 1000000) :
 Calls Tryz.prog 218 #[.agg #[.int .i64 k, .string s]] w fun e w' => ∃ r : ByteArray, e = .returned (.string r) ∧ r.data.toList = writtenF k s.data.toList ∧ Below w.heap.size w w' := by
 have kw := kp_new w (.cells #[.int .i64 k, .string s] 142); have hL1 := hL.next kw; by_cases h1 : k = 1 ∨ k = 4 ∨ k = 6
 · have hF : writtenF k s.data.toList = s.data.toList := by unfold writtenF; rw [if_pos h1]
   have HF := hid hF; clear hF; rcases h1 with rfl | rfl | rfl
   all_goals
    go_enter Tryz.func218, Tryz.ntmps218; go_wp2_with fail; go_ret; exact ⟨s, rfl, HF.out.symm, kw⟩
 by_cases h2 : k = 2
 · subst h2; have hQ := hid (quote_ok 34 s ⟨#[34]⟩ rfl _ hL1 hs); go_enter Tryz.func218, Tryz.ntmps218; go_wp2_with fail; refine hQ.out.mono ?_; rintro e w1 ⟨r, rfl, hr, k1⟩; go_wp2_with fail; go_ret; exact ⟨r, rfl, hr, kp_trans kw k1⟩
 by_cases h3 : k = 3
 · subst h3; have hQ := hid (quote_ok 39 s ⟨#[39]⟩ rfl _ hL1 hs); go_enter Tryz.func218, Tryz.ntmps218; go_wp2_with fail; refine hQ.out.mono ?_; rintro e w1 ⟨r, rfl, hr, k1⟩; go_wp2_with fail; go_ret; exact ⟨r, rfl, hr, kp_trans kw k1⟩
 by_cases h5 : k = 5
 · subst h5; have z1 : (⟨#[47, 42, 43, 32]⟩ ++ s : ByteArray).size ≤ 1000004 := by rw [ByteArray.size_append]; have : (⟨#[47, 42, 43, 32]⟩ : ByteArray).size = 4 := rfl; omega
   have z2 : (⟨#[47, 42, 43, 32]⟩ ++ s ++ ⟨#[32]⟩ : ByteArray).size ≤ 1000005 := by rw [ByteArray.size_append]; have : (⟨#[32]⟩ : ByteArray).size = 1 := rfl; omega
   have z3 : (⟨#[47, 42, 43, 32]⟩ : ByteArray).size = 4 := rfl; have z4 : (⟨#[32]⟩ : ByteArray).size = 1 := rfl; have z5 : (⟨#[42, 47]⟩ : ByteArray).size = 2 := rfl; go_enter Tryz.func218, Tryz.ntmps218; go_wp2_with fail; go_ret; exact ⟨_, rfl, by rw [text_add, text_add, text_add]; rfl, kw⟩
 · have hF : writtenF k s.data.toList = [] := by unfold writtenF; rw [if_neg h1, if_neg h2, if_neg h3, if_neg h5]
   have HF := hid hF; have e1 : (k == 1) = false := by simp only [beq_eq_false_iff_ne, ne_eq]; omega
   have e2 : (k == 2) = false := by simp only [beq_eq_false_iff_ne, ne_eq]; omega
   have e3 : (k == 3) = false := by simp only [beq_eq_false_iff_ne, ne_eq]; omega
   have e4 : (k == 4) = false := by simp only [beq_eq_false_iff_ne, ne_eq]; omega
   have e5 : (k == 5) = false := by simp only [beq_eq_false_iff_ne, ne_eq]; omega
   have e6 : (k == 6) = false := by simp only [beq_eq_false_iff_ne, ne_eq]; omega
   clear hF h1 h2 h3 h5; go_enter Tryz.func218, Tryz.ntmps218; go_wp2_with fail; go_ret; exact ⟨⟨#[]⟩, rfl, HF.out.symm, kw⟩
end

/- The document's layer 4: what stands between quotes, words, texts with quotes twice: contracts. -/
section
open Go.RowKit
set_option maxRecDepth 100000
theorem byteinfo : (Tryz.prog.info? 5).map (fun i => (i.zero, i.size, i.bytes)) = some (some (.int .u8 0), 1, 1) := by kernel_rfl
theorem Ow.push {w : World} {base : Nat} {v : Value} {n : Nat} {bs : List UInt8} {b : UInt8} (h : w.ownsRow base 5 1 v (n + 1) (bvs bs ++ [.int .u8 (b.toNat : Int)])) : ∃ A c, v = .slice A (n + 1) c ∧ Ow w base A (n + 1) c (bs ++ [b]) := by
 rw [show [Value.int .u8 (b.toNat : Int)] = bvs [b] from rfl, ← bvs_append] at h; exact Ow.mk' h
theorem Ow.empty (w : World) : Ow (w.alloc (.cells #[] 5)) w.heap.size (some ⟨w.heap.size, 0, none⟩) 0 0 [] := by
 have := Ow.new w w.heap.size (Nat.le_refl _) [] (by simp); exact this
theorem Ow.text {w : World} {base : Nat} {A : Option Addr} {l c : Nat} {bs : List UInt8} (h : Ow w base A l c bs) : (convert 193 9 (.slice A l c)).run Tryz.prog w = .ok (.string ⟨bs.toArray⟩) w :=
 run_text (P := Tryz.prog) h.sl 193 9 5 Tryz.underlying193 Tryz.underlying5 Tryz.underlying9
set_option maxHeartbeats 1000000 in
theorem word_ok (s : ByteArray) (w : World) (hs : s.size ≤ 140737488351232) : Calls Tryz.prog 165 #[.string s] w fun e w' => ∃ r : ByteArray, e = .returned (.string r) ∧ r.data.toList = greatF s.data.toList ∧ Below w.heap.size w w' := by
 obtain ⟨i0, hi, hz0, hz1, hz2⟩ := info_parts byteinfo; have hlen := hid (text_len s); go_enter Tryz.func165, Tryz.ntmps165
 go_wp2
 go_loopw [3, 4] (fun o v wr => ∃ (k : Nat) (A : Option Addr) (c : Nat), v = .int .i64 k ∧ k ≤ s.size ∧ o = .slice A k c ∧ Ow wr w.heap.size A k c ((s.data.toList.take k).map upF) ∧ Below w.heap.size w wr) (fun _ v _ => s.size - (intOf v).toNat)
 case atStart => exact ⟨0, _, _, rfl, Nat.zero_le _, rfl, Ow.empty w, kp_new _ _⟩
 case round =>
  obtain ⟨k, A, c, rfl, hk, rfl, ho, kw⟩ := hrel; by_cases hlt : k < s.size
  · have hkl : k < s.data.toList.length := by rw [hlen.out]; exact hlt
    have hb := text_at s k hlt; have hnext := hid (drop_take_map upF s.data.toList k hkl); generalize s.data.toList[k] = b at hb hnext; have hsw := kw.size; by_cases hlow : 97 ≤ b.toNat ∧ b.toNat ≤ 122
    · obtain ⟨h1, h2⟩ := hlow; have hu : (b.toNat : Int) - 32 = ((upF b).toNat : Int) := by rw [up_byte b h1 h2]; omega
      have HU := hid hu; clear hu; go_wp2_with (at_builtin; refine wpList_append_rd rfl _ _ _ rfl w.heap.size 5 i0 _ 1 Tryz.underlying193 hi hz0 hz1 hz2 rfl _ k _ rfl (ho.own.alloc _) (wr.heap.size + 1) _ _ _ [_] rfl rfl (Rd.new _ _ _) (by simp [Value.oneCell']) (by unfold maxLen; omega) (by omega) (by simp; omega) ?_; intro v2 w2 hown2 hg2; rw [HU.out] at hown2; obtain ⟨A2, c2, rfl, ho2⟩ := Ow.push hown2); go_roundw
      case rel => exact ⟨k + 1, A2, c2, by go_num, by omega, rfl, by rw [hnext.out]; exact ho2, (kp_alloc kw _).trans (below_own (ho.own.alloc _) hg2 (by simp; omega))⟩
      case measure => simp [intOf]; omega
    · have hsame := up_same b hlow; have HS := hid hsame; have hlow2 : (¬ 97 ≤ b.toNat) ∨ (97 ≤ b.toNat ∧ ¬ b.toNat ≤ 122) := by omega
      clear hsame hlow; rcases hlow2 with h1 | ⟨h1, h2⟩
      all_goals
       go_wp2_with (at_builtin; refine wpList_append_rd rfl _ _ _ rfl w.heap.size 5 i0 _ 1 Tryz.underlying193 hi hz0 hz1 hz2 rfl _ k _ rfl (ho.own.alloc _) (wr.heap.size + 1) _ _ _ [_] rfl rfl (Rd.new _ _ _) (by simp [Value.oneCell']) (by unfold maxLen; omega) (by omega) (by simp; omega) ?_; intro v2 w2 hown2 hg2; obtain ⟨A2, c2, rfl, ho2⟩ := Ow.push hown2); go_roundw
       case rel => exact ⟨k + 1, A2, c2, by go_num, by omega, rfl, by rw [hnext.out, HS.out]; exact ho2, (kp_alloc kw _).trans (below_own (ho.own.alloc _) hg2 (by simp; omega))⟩
       case measure => simp [intOf]; omega
  · obtain rfl : k = s.size := by omega
    rw [List.take_of_length_le (by rw [hlen.out]; exact Nat.le_refl _)] at ho; have hT := ho.text; go_wp2_with fail; go_ret; exact ⟨_, rfl, by simp [greatF], kw⟩
end
end Go.Proofs.YtdhnpmagapbmhaaGreatDoor
