/-
  Contracts and plain functions that the law stands on, part 14 of 16.
-/
import Derived.Test.YtaoegiohnebnhaaGreatDoorQA13
namespace Go.Proofs.YtaoegiohnebnhaaGreatDoor
/- Layer 15: one node's transaction from its begin to its end, plain (what NodeWhole says of it). -/
section
open Go.RowKit
set_option maxRecDepth 100000

theorem lex15_beg : lexF [98, 101, 103, 105, 110] = some [(1, [66, 69, 71, 73, 78])] := by
  rw [lexF_tok (k := 1) (t := [66, 69, 71, 73, 78]) (n := 5) (by simp) (by kernel_rfl) (by decide)]
  simp only [List.drop_succ_cons, List.drop_zero]
  rw [lexF_nil]
  rfl
theorem lex15_com : lexF [99, 111, 109, 109, 105, 116] = some [(1, [67, 79, 77, 77, 73, 84])] := by
  rw [lexF_tok (k := 1) (t := [67, 79, 77, 77, 73, 84]) (n := 6) (by simp) (by kernel_rfl) (by decide)]
  simp only [List.drop_succ_cons, List.drop_zero]
  rw [lexF_nil]
  rfl
theorem lex15_rol : lexF [114, 111, 108, 108, 98, 97, 99, 107] = some [(1, [82, 79, 76, 76, 66, 65, 67, 75])] := by
  rw [lexF_tok (k := 1) (t := [82, 79, 76, 76, 66, 65, 67, 75]) (n := 8) (by simp) (by kernel_rfl) (by decide)]
  simp only [List.drop_succ_cons, List.drop_zero]
  rw [lexF_nil]
  rfl
theorem lex15_sel : lexF [115, 101, 108, 101, 99, 116, 32, 118, 32, 102, 114, 111, 109, 32, 107, 118, 32, 119, 104, 101, 114, 101, 32, 107, 32, 61, 32, 39, 111, 119, 110, 39] = some [(1, [83, 69, 76, 69, 67, 84]), (1, [86]), (1, [70, 82, 79, 77]), (1, [75, 86]), (1, [87, 72, 69, 82, 69]), (1, [75]), (6, [61]), (3, [111, 119, 110])] := by
  rw [lexF_tok (k := 1) (t := [83, 69, 76, 69, 67, 84]) (n := 6) (by simp) (by kernel_rfl) (by decide)]
  simp only [List.drop_succ_cons, List.drop_zero]
  rw [lexF_skip (n := 1) (by simp) (by kernel_rfl) (by decide)]
  simp only [List.drop_succ_cons, List.drop_zero]
  rw [lexF_tok (k := 1) (t := [86]) (n := 1) (by simp) (by kernel_rfl) (by decide)]
  simp only [List.drop_succ_cons, List.drop_zero]
  rw [lexF_skip (n := 1) (by simp) (by kernel_rfl) (by decide)]
  simp only [List.drop_succ_cons, List.drop_zero]
  rw [lexF_tok (k := 1) (t := [70, 82, 79, 77]) (n := 4) (by simp) (by kernel_rfl) (by decide)]
  simp only [List.drop_succ_cons, List.drop_zero]
  rw [lexF_skip (n := 1) (by simp) (by kernel_rfl) (by decide)]
  simp only [List.drop_succ_cons, List.drop_zero]
  rw [lexF_tok (k := 1) (t := [75, 86]) (n := 2) (by simp) (by kernel_rfl) (by decide)]
  simp only [List.drop_succ_cons, List.drop_zero]
  rw [lexF_skip (n := 1) (by simp) (by kernel_rfl) (by decide)]
  simp only [List.drop_succ_cons, List.drop_zero]
  rw [lexF_tok (k := 1) (t := [87, 72, 69, 82, 69]) (n := 5) (by simp) (by kernel_rfl) (by decide)]
  simp only [List.drop_succ_cons, List.drop_zero]
  rw [lexF_skip (n := 1) (by simp) (by kernel_rfl) (by decide)]
  simp only [List.drop_succ_cons, List.drop_zero]
  rw [lexF_tok (k := 1) (t := [75]) (n := 1) (by simp) (by kernel_rfl) (by decide)]
  simp only [List.drop_succ_cons, List.drop_zero]
  rw [lexF_skip (n := 1) (by simp) (by kernel_rfl) (by decide)]
  simp only [List.drop_succ_cons, List.drop_zero]
  rw [lexF_tok (k := 6) (t := [61]) (n := 1) (by simp) (by kernel_rfl) (by decide)]
  simp only [List.drop_succ_cons, List.drop_zero]
  rw [lexF_skip (n := 1) (by simp) (by kernel_rfl) (by decide)]
  simp only [List.drop_succ_cons, List.drop_zero]
  rw [lexF_tok (k := 3) (t := [111, 119, 110]) (n := 5) (by simp) (by kernel_rfl) (by decide)]
  simp only [List.drop_succ_cons, List.drop_zero]
  rw [lexF_nil]
  rfl
def tx15_beg : ByteArray := ⟨#[98, 101, 103, 105, 110]⟩
def tx15_com : ByteArray := ⟨#[99, 111, 109, 109, 105, 116]⟩
def tx15_rol : ByteArray := ⟨#[114, 111, 108, 108, 98, 97, 99, 107]⟩
def tx15_sel : ByteArray := ⟨#[115, 101, 108, 101, 99, 116, 32, 118, 32, 102, 114, 111, 109, 32, 107, 118, 32, 119, 104, 101, 114, 101, 32, 107, 32, 61, 32, 39, 111, 119, 110, 39]⟩
theorem cls15_beg : clsT tx15_beg = 3 := by
  unfold clsT tx15_beg
  rw [classA_lex lex15_beg (by decide)]
  kernel_rfl
theorem cls15_com : clsT tx15_com = 4 := by
  unfold clsT tx15_com
  rw [classA_lex lex15_com (by decide)]
  kernel_rfl
theorem cls15_rol : clsT tx15_rol = 5 := by
  unfold clsT tx15_rol
  rw [classA_lex lex15_rol (by decide)]
  kernel_rfl
theorem cls15_sel : clsT tx15_sel = 1 := by
  unfold clsT tx15_sel
  rw [classA_lex lex15_sel (by decide)]
  kernel_rfl
def own15 : List UInt8 := [111, 119, 110]
theorem plan15_sel : planA tx15_sel.data.toList = (1, own15, []) := by
  unfold tx15_sel
  rw [planA_lex lex15_sel (by decide)]
  kernel_rfl

/-- the text that writes a value at 'own' -/
def put15 (v : List UInt8) : List UInt8 := pIns ++ (quoteF 39 own15 ++ ([44] ++ ([32] ++ (quoteF 39 v ++ [41]))))
theorem lex_put15 (v : List UInt8) : lexF (put15 v) = some [(1, wINSERT), (1, wINTO), (1, wKV), (1, wVALUES), (6, [40]), (3, own15), (6, [44]), (3, v), (6, [41])] := by
  unfold put15
  rw [says_ins, quote_then own15 _ (by simp), says_comma, says_blank 32 (by decide), quote_then v _ (by simp), says_close.lex]
  rfl
theorem put15_len (v : List UInt8) : (put15 v).length ≤ 2 * v.length + 33 := by
  have h2 := quote_len v
  have h1 : (quoteF 39 own15).length = 5 := rfl
  have h3 : pIns.length = 23 := rfl
  unfold put15
  simp only [List.length_append, List.length_cons, List.length_nil, h1, h3]
  omega
theorem plan_put15 (v : List UInt8) (h : v.length ≤ 20) : planA (put15 v) = (3, own15, v) := by
  rw [planA_lex (lex_put15 v) (by have := put15_len v; omega)]
  rfl
theorem cls_put15 (v : List UInt8) (h : v.length ≤ 20) : clsT (ba (put15 v)) = 2 := by
  show classA (ba (put15 v)).data.toList = 2
  have e : (ba (put15 v)).data.toList = put15 v := by simp [ba]
  rw [e]
  exact (plan_class (l := put15 v)).2 (.inl (by rw [plan_put15 v h]))
theorem sm_put15 (v : List UInt8) (h : v.length ≤ 20) : Sm (ba (put15 v)) := by
  have h1 := put15_len v
  show (put15 v).toArray.size ≤ 300
  rw [List.size_toArray]
  omega
/-- how it is put together -/
theorem twiceF_append (q : UInt8) : ∀ a b : List UInt8, twiceF q (a ++ b) = twiceF q a ++ twiceF q b
  | [], _ => rfl
  | x :: a, b => by
    rw [List.cons_append, twiceF, twiceF, twiceF_append q a b]
    split <;> rfl
theorem twiceF_one (x : UInt8) : twiceF 39 [x] = if x = 39 then [39, 39] else [x] := by
  unfold twiceF
  split
  · rename_i h
    subst h
    rfl
  · rfl
/-- a value, quoted as far as it is said -/
def q15 (v : List UInt8) (i : Nat) : ByteArray := ba (39 :: twiceF 39 (v.take i))
theorem ba_append (a b : List UInt8) : ba a ++ ba b = ba (a ++ b) := by
  apply ByteArray.ext
  rw [ByteArray.data_append]
  simp [ba]
theorem q15_plain {v : List UInt8} {i : Nat} (hi : i < v.length) (h : v[i] ≠ 39) : q15 v i ++ ba [v[i]] = q15 v (i + 1) := by
  unfold q15
  rw [ba_append, List.take_succ_eq_append_getElem hi, twiceF_append, twiceF_one, if_neg h]
  rfl
theorem q15_quote {v : List UInt8} {i : Nat} (hi : i < v.length) (h : v[i] = 39) : q15 v i ++ ba [v[i]] ++ ⟨#[39]⟩ = q15 v (i + 1) := by
  unfold q15
  rw [show (⟨#[39]⟩ : ByteArray) = ba [39] from rfl, ba_append, ba_append, List.take_succ_eq_append_getElem hi, twiceF_append, twiceF_one, if_pos h, h]
  simp
theorem q15_size (v : ByteArray) (i : Nat) (h : v.size ≤ 20) : (q15 v.data.toList i).size ≤ 50 := by
  have h1 := twiceF_length 39 (v.data.toList.take i)
  have h2 : (v.data.toList.take i).length ≤ v.data.toList.length := by rw [List.length_take]; omega
  have h3 : v.data.toList.length = v.size := Array.length_toList
  show (39 :: twiceF 39 (v.data.toList.take i)).toArray.size ≤ 50
  rw [List.size_toArray, List.length_cons]
  omega
theorem ext15 {v : ByteArray} {j : Nat} (hj : j < v.size) : v.extract j (j + 1) = ba [v.data.toList[j]'(by rw [Array.length_toList]; exact hj)] := by
  apply ByteArray.ext
  apply Array.toList_inj.1
  rw [text_cut, List.drop_eq_getElem_cons (by rw [Array.length_toList]; exact hj), Nat.add_sub_cancel_left]
  simp [ba]
theorem byte39 {b : UInt8} : (((b.toNat : Int) == 39) = true) ↔ b = 39 := by
  rw [beq_iff_eq]
  constructor
  · intro h
    have h2 : b.toNat = 39 := by omega
    exact UInt8.toNat_inj.1 h2
  · rintro rfl
    rfl
theorem q15_two {v Q : ByteArray} {j : Nat} (hj : j < v.size) (h : (((v[j]'hj).toNat : Int) == 39) = true) (hQ : Q = q15 v.data.toList j) : Q ++ v.extract j (j + 1) ++ ⟨#[39]⟩ = q15 v.data.toList (j + 1) := by
  rw [hQ, ext15 hj]
  exact q15_quote (by rw [Array.length_toList]; exact hj) (by rw [← byte39.1 h]; rfl)
theorem q15_one {v Q : ByteArray} {j : Nat} (hj : j < v.size) (h : (((v[j]'hj).toNat : Int) == 39) = false) (hQ : Q = q15 v.data.toList j) : Q ++ v.extract j (j + 1) = q15 v.data.toList (j + 1) := by
  rw [hQ, ext15 hj]
  refine q15_plain (by rw [Array.length_toList]; exact hj) fun e => ?_
  rw [byte39.2 (show v[j]'hj = 39 from e)] at h
  cases h
theorem q15_all (v : List UInt8) : ba (pIns ++ (quoteF 39 own15 ++ [44, 32])) ++ q15 v v.length ++ ba [39, 41] = ba (put15 v) := by
  unfold q15 put15
  rw [ba_append, ba_append, List.take_length]
  congr 1
  simp [quoteF]
theorem pre15 : ba (pIns ++ (quoteF 39 own15 ++ [44, 32])) = ⟨#[105, 110, 115, 101, 114, 116, 32, 105, 110, 116, 111, 32, 107, 118, 32, 118, 97, 108, 117, 101, 115, 32, 40, 39, 111, 119, 110, 39, 44, 32]⟩ := by kernel_rfl

/-- the node, midway through its transaction -/
def mid15 (ts : List ByteArray) : Nd := ⟨1, true, [], [⟨1, ts⟩]⟩
def led15b : Nd := ⟨1, true, [], []⟩
theorem lead15 : leadNd newNd 1 = led15b := rfl
theorem begin15 : runNd led15b 1 1 false tx15_beg = (⟨0, 1, 0, []⟩, mid15 []) := by
  unfold runNd whyNd
  rw [cls15_beg]
  rfl
theorem write15 {ts : List ByteArray} {s : ByteArray} (hs : clsT s = 2) (hl : ts.length < 200) : runNd (mid15 ts) 1 1 false s = (⟨0, 1, 0, []⟩, mid15 (ts ++ [s])) := by
  have hn : ¬ 200 ≤ ts.length := by omega
  unfold runNd whyNd doNd
  rw [hs]
  simp [mid15, opOf, putOp, hn]
theorem other15 (ts : List ByteArray) : runNd (mid15 ts) 2 1 true tx15_2 = (⟨0, 1, 0, []⟩, mid15 ts) := by
  unfold runNd whyNd
  rw [cls15_2]
  have hr : rdT tx15_2 (tabN [] []) = [] := by
    unfold rdT tabN
    rw [plan15_2]
    rfl
  simp [waitsNd, mid15, opOf, hr]
theorem writes_has (k v : ByteArray) (l : List Kv) : (⟨k, v⟩ : Kv) ∈ (writesF 3 k v l).1 := by
  unfold writesF
  rw [if_pos (.inl rfl)]
  simp
theorem reads15 (ts : List ByteArray) (v : ByteArray) (h : v.size ≤ 20) : runNd (mid15 (ts ++ [ba (put15 v.data.toList)])) 1 1 false tx15_sel = (⟨0, 1, 0, [v]⟩, mid15 (ts ++ [ba (put15 v.data.toList)])) := by
  have hl : v.data.toList.length ≤ 20 := by rw [Array.length_toList]; exact h
  have hr : rdT tx15_sel (tabN [] (ts ++ [ba (put15 v.data.toList)])) = [v] := by
    unfold rdT
    rw [plan15_sel]
    refine reads_mem (tabN_srt _ _) ?_
    unfold tabN
    rw [List.foldl_append, List.foldl_cons, List.foldl_nil, wrT]
    have e : (ba (put15 v.data.toList)).data.toList = put15 v.data.toList := by simp [ba]
    rw [e, plan_put15 _ hl, ba_text]
    exact writes_has _ _ _
  unfold runNd whyNd
  rw [cls15_sel]
  simp only [waitsNd, mid15, opOf, if_true, Option.getD]
  rw [hr]
  rfl
theorem commit15 (ts : List ByteArray) (h : ts.length ≤ 200) : runNd (mid15 ts) 1 1 false tx15_com = (⟨0, 1, (ts.length : Int), []⟩, ⟨1, true, ts.map fun t => ⟨1, t⟩, []⟩) := by
  have hn : ¬ 200 < ts.length := by omega
  unfold runNd whyNd doNd
  rw [cls15_com]
  simp [mid15, opOf, layNd, closeNd, dropOp, hn]
theorem roll15 (ts : List ByteArray) : runNd (mid15 ts) 1 1 false tx15_rol = (⟨0, 1, 0, []⟩, led15b) := by
  unfold runNd whyNd doNd
  rw [cls15_rol]
  simp [mid15, opOf, closeNd, dropOp, led15b]
theorem close15 (ts : List ByteArray) : closeNd (mid15 ts) 1 = led15b ∧ idxOp 1 (mid15 ts).op = 0 := by
  simp [mid15, closeNd, dropOp, led15b, idxOp]
theorem closed15 (lg : List Lg) : closeNd ⟨1, true, lg, []⟩ 1 = ⟨1, true, lg, []⟩ ∧ idxOp 1 ([] : List Op15) = -1 := by
  simp [closeNd, dropOp, idxOp]
theorem ended15 (lg : List Lg) : runNd ⟨1, true, lg, []⟩ 1 1 false tx15_com = (⟨7, 1, (lg.length : Int), []⟩, ⟨1, true, lg, []⟩) := by
  unfold runNd whyNd doNd
  rw [cls15_com]
  simp [opOf]
theorem NdI.mid {ts : List ByteArray} (hl : ts.length ≤ 200) (hs : ∀ s ∈ ts, Sm s) : NdI 1 (mid15 ts) :=
  ⟨(show (0 : Int) ≤ 1 by decide), (show (1 : Int) < 18446744073709551616 by decide), Nat.zero_le _, (fun _ h => nomatch h), (by simp [mid15]), Nat.le_refl _, fun o ho => by
    obtain rfl : o = ⟨1, ts⟩ := by simpa [mid15] using ho
    exact ⟨show (-9223372036854775808 : Int) ≤ 1 by decide, show (1 : Int) ≤ 9223372036854775807 by decide, hl, hs⟩⟩
theorem NdI.done {lg : List Lg} (hl : lg.length ≤ 200) (hs : ∀ x ∈ lg, Sm x.t ∧ x.e = 1) : NdI 1 ⟨1, true, lg, []⟩ :=
  ⟨(show (0 : Int) ≤ 1 by decide), (show (1 : Int) < 18446744073709551616 by decide), hl, (fun x hx => ⟨(hs x hx).1, by rw [(hs x hx).2]; decide, by rw [(hs x hx).2]; decide⟩), List.nodup_nil, Nat.zero_le _, (fun _ h => nomatch h)⟩
end

/- Layer 15: where a walk stands that has one node and a Classer. -/
section
open Go.RowKit
set_option maxRecDepth 100000

section
variable {w0 w w' : World} {X Y : Thing} {ps : List (Nat × (Nat → Nat))} {l : List (Nat × Obj)} {rs : List (Option Addr × Nat × List Lg)} {xs : List (Option Addr × Nat × List ByteArray)}
/-- a second thing comes to be -/
theorem St15.second (h : St15 w0 X T0 ps l rs xs w) (hb : Below w.heap.size w w') {T : Nat → Prop} (hY : Y.p T w') (hT : ∀ k, T k → w.heap.size ≤ k) : St15 w0 X Y ps l rs xs w' := by
  obtain ⟨N, a, b, c, d, e⟩ := h
  obtain ⟨⟨S, T', h1, h2, h3, h4⟩, h5, h6⟩ := id a
  have hz := h5.size
  have a' : Duo w0 X Y N w' := by
    obtain ⟨_, b1, b2⟩ := a.next hb
    refine ⟨⟨S, T, Thing.next h1 hb, hY, fun k hk hk2 => ?_, fun k hk => hk.elim (fun h => h4 k (.inl h)) fun h => ⟨?_, fun hn => ?_⟩⟩, b1, b2⟩
    · have := X.lt h1 k hk
      have := hT k hk2
      omega
    · have := hT k h
      omega
    · have := h6 k hn
      have := hT k h
      omega
  obtain ⟨b', c', d', e'⟩ := St15.keep a' b c d e (fun k hk => ⟨hk, hb.block k (h6 k hk)⟩) hb.size
  exact ⟨N, a', b', c', d', e'⟩
/-- a row of entries that a call made -/
theorem St15.lrow (h : St15 w0 X Y ps l rs xs w) (hb : Below w.heap.size w w') {A : Option Addr} {n c : Nat} {T : TypeId} {lg : List Lg} (ho : w'.ownsRow w.heap.size T 2 (.slice A n c) n (lgC lg)) : St15 w0 X Y ps l ((A, n, lg) :: rs) xs w' :=
  h.row hb (LR.of_own ho) (own_blk15 ho)
end
section
variable {X : Nat → Nd → Thing} {w0 w : World} {Y : Thing} {b k : Nat} {n : Nd} {ps : List (Nat × (Nat → Nat))} {l : List (Nat × Obj)} {rs : List (Option Addr × Nat × List Lg)} {xs : List (Option Addr × Nat × List ByteArray)}
theorem St15.lead1 (h : St15 w0 (X b n) Y ps l rs xs w) (C : NodeC X) (hI : NdI k n) (e : Int) (he : U64n e) {n' : Nd} (h1 : leadNd n e = n') {b0 : Bool} (h2 : decide (n.ep ≤ e) = b0) :
    Calls Tryz.prog 27 #[.pointer (some ⟨b, 0, none⟩), .int .u64 e] w fun e' w' => e' = .returned (.bool b0) ∧ St15 w0 (X b n') Y ps l rs xs w' := by
  subst h1 h2
  exact h.left (Q := fun e' _ => e' = .returned (.bool (decide (n.ep ≤ e)))) fun S hS => C.lead b n k e S w hS hI he
theorem St15.close1 (h : St15 w0 (X b n) Y ps l rs xs w) (C : NodeC X) (hI : NdI k n) (hk : k ≤ 800) (c : Int) (hc : I64n c) {n' : Nd} (h1 : closeNd n c = n') {b0 : Bool} (h2 : decide (0 ≤ idxOp c n.op) = b0) :
    Calls Tryz.prog 30 #[.pointer (some ⟨b, 0, none⟩), .int .i64 c] w fun e' w' => e' = .returned (.bool b0) ∧ St15 w0 (X b n') Y ps l rs xs w' := by
  subst h1 h2
  exact h.left (Q := fun e' _ => e' = .returned (.bool (decide (0 ≤ idxOp c n.op)))) fun S hS => C.close b n k c S w hS hI hk hc
theorem St15.log1 (h : St15 w0 (X b n) Y ps l rs xs w) (C : NodeC X) (hI : NdI k n) :
    Calls Tryz.prog 21 #[.pointer (some ⟨b, 0, none⟩)] w fun e w' => ∃ A m d, (e = .returned (.slice A m d) ∧ m ≤ d) ∧ St15 w0 (X b n) Y ps l ((A, m, n.lg) :: rs) xs w' :=
  h.toldL (Q := fun e A m d => e = .returned (.slice A m d) ∧ m ≤ d) fun S hS => (C.log b n k S w hS hI).mono fun _ _ ⟨A, m, d, h1, h2, h3, h4⟩ => ⟨A, m, d, ⟨⟨h1, h2⟩, h3⟩, h4⟩
theorem St15.run1 (h : St15 w0 (X b n) Y ps l rs xs w) (C : NodeC X) (hL : Lw w0) (hI : NdI k n) (hk : k ≤ 800) (c e : Int) (rd : Bool) (s : ByteArray) (hs : Sm s) (hc : I64n c) (he : U64n e) {r : Rp} {n' : Nd} (hR : runNd n c e rd s = (r, n')) :
    Calls Tryz.prog 28 #[.pointer (some ⟨b, 0, none⟩), .int .i64 c, .int .u64 e, .bool rd, .string s] w fun e' w' => ∃ A m d, e' = .returned (.agg #[.int .i64 r.e, .int .u64 r.ep, .int .u64 r.pl, .slice A m d]) ∧ m = r.ts.length ∧ St15 w0 (X b n') Y ps l rs ((A, m, r.ts) :: xs) w' := by
  obtain rfl : r = (runNd n c e rd s).1 := by rw [hR]
  obtain rfl : n' = (runNd n c e rd s).2 := by rw [hR]
  refine (h.toldX (X' := X b (runNd n c e rd s).2) (ss := (runNd n c e rd s).1.ts) (Q := fun e' A m d => e' = .returned (rpV (runNd n c e rd s).1 A m d) ∧ m = (runNd n c e rd s).1.ts.length) fun S hS => (C.run b n k c e rd s S w (hL.next h.low) hS hI hk hs hc he).mono fun _ _ ⟨A, m, d, h1, h2, h3⟩ => ⟨A, m, d, ⟨⟨h1, h2.len.symm⟩, h2⟩, h3⟩).mono ?_
  rintro e' u ⟨A, m, d, ⟨rfl, hm⟩, h2⟩
  exact ⟨A, m, d, rfl, hm, h2⟩
end
theorem fld15 (e p q : Int) (A : Option Addr) (m d : Nat) (w : World) : (Instr.field 68 (.agg #[.int .i64 e, .int .u64 p, .int .u64 q, .slice A m d]) 0).run Tryz.prog w = .ok (.int .i64 e) w := by kernel_rfl
theorem n1_ok : I64n 1 := ⟨by decide, by decide⟩
theorem n2_ok : I64n 2 := ⟨by decide, by decide⟩
theorem u1_ok : U64n 1 := ⟨by decide, by decide⟩
end

/- NodeWhole, of layer 15: the walk. -/
section
open Go.RowKit
set_option maxRecDepth 100000

section
variable {X : Nat → Nd → Thing}
set_option maxHeartbeats 3500000 in
theorem nodewhole_walk (C : NodeC X) (A1 : Option Addr) (l1 c1 : Nat) (ts : List ByteArray) (en : Int) (v : ByteArray) (W : World) (r1 : XR W A1 l1 ts) (hL : Lw W) :
    Calls Tryz.prog 5 #[.slice A1 l1 c1, .int .i64 en, .string v] W fun e w' => e = .returned (.bool true) ∧ Below W.heap.size W w' := by
  have HAW := Lib.hid (awake15_ok C hL)
  have R1 := Lib.hid r1
  have HN1 := Lib.hid r1.len
  have HC := Lib.hid C
  have HLW := Lib.hid hL
  clear r1 C hL
  go_enter Tryz.func5, Tryz.ntmps5
  go_wp2_with fail
  refine HAW.out.mono ?_
  rintro e w1 ⟨rfl, k1⟩
  have HK1 := Lib.hid k1
  clear HAW k1
  by_cases h40 : 40 < l1
  · go_wp2_with fail
    go_ret
    exact ⟨rfl, HK1.out⟩
  by_cases h20 : 20 < v.size
  · go_wp2_with fail
    go_ret
    exact ⟨rfl, HK1.out⟩
  have hv : v.size ≤ 20 := by omega
  have hl : l1 ≤ 40 := by omega
  go_wp2_with fail
  refine (HC.out.new w1 (HLW.out.next HK1.out)).mono ?_
  rintro e w2 ⟨b, rfl, ⟨S, p2, s2⟩, k2⟩
  have HD2 : Hid (St15 W (X b newNd) T0 [] [] [] [] w2) := Lib.hid (St15.make ⟨⟨S, noneB, p2, T0.none w2, fun _ _ h => h, fun k hk => hk.elim (fun h => ⟨by have := s2 k h; have := HK1.out.size; omega, fun h => h⟩) fun h => h.elim⟩, HK1.out.trans (k2.mono HK1.out.size), fun _ h => h.elim⟩)
  clear p2 s2 k2 HK1
  go_wp2_with fail
  refine (HD2.out.lead1 HC.out NdI.new 1 u1_ok lead15 (b0 := true) rfl).mono ?_
  rintro e w3 ⟨rfl, h3⟩
  have HD3 := Lib.hid h3
  clear h3 HD2
  go_wp2_with fail
  refine (newCT_ok w3).mono ?_
  rintro e w4 ⟨rfl, ct4, k4⟩
  obtain ⟨cb, hcb⟩ : ∃ y, w3.heap.size = y := ⟨_, rfl⟩
  have HD4 : Hid (St15 W (X b led15b) (CT cb) [] [] [] [] w4) := Lib.hid (HD3.out.second k4 (hcb ▸ ct4) fun k hk => by omega)
  rw [hcb]
  clear ct4 k4 HD3 hcb
  go_wp2_with fail
  refine (HD4.out.run1 HC.out HLW.out (NdI.done (lg := []) (Nat.zero_le _) (fun _ h => nomatch h)) (by omega) 1 1 false tx15_beg (show tx15_beg.size ≤ 300 by decide) n1_ok u1_ok begin15).mono ?_
  rintro e w5 ⟨A, m, d, rfl, -, h5⟩
  have HD5 := Lib.hid (h5.less (xs' := []) (fun _ h => h) (fun _ h => h) (fun _ h => h) (fun _ h => nomatch h))
  clear h5 HD4
  have hfld := fld15 0 1 0 A m d w5
  go_wp2_with fail
  clear hfld
  go_loopw [40] (fun i wr => ∃ (k : Nat), k ≤ l1 ∧ i = .int .i64 k ∧ Hid (∀ s ∈ ts.take k, Sm s) ∧ Hid (St15 W (X b (mid15 (ts.take k))) (CT cb) [] [] [] [] wr)) (fun i _ => l1 - (intOf i).toNat)
  case atStart => exact ⟨0, Nat.zero_le _, rfl, Lib.hid (fun _ h => nomatch h), HD5⟩
  case round =>
    obtain ⟨k, hk, rfl, hS, hD⟩ := hrel
    clear HD5
    by_cases hlt : k < l1
    · have hkl : k < ts.length := by rw [HN1.out]; exact hlt
      obtain ⟨ad, rfl, _, hc⟩ := (R1.out.next hD.out.low).at_ hkl
      have HTK : Hid (ts.take (k + 1) = ts.take k ++ [ts[k]]) := Lib.hid (List.take_succ_eq_append_getElem hkl)
      generalize ts[k] = s at *
      by_cases hs3 : 300 < s.size
      · have HLO := Lib.hid hD.out.low
        clear hD
        go_wp2_with fail
        go_ret
        exact ⟨rfl, HLO.out⟩
      have HS3 : Hid (Sm s) := Lib.hid (by unfold Sm; omega)
      have hs4 : s.size ≤ 300 := by omega
      clear hs3
      go_wp2_with fail
      refine (hD.out.class HLW.out s (by unfold maxLen; omega)).mono ?_
      rintro e u1 ⟨rfl, h1⟩
      have H1 := Lib.hid h1
      clear h1 hD hc
      by_cases hcl : clsT s = 2
      · have HCL := Lib.hid hcl
        rw [hcl]
        clear hcl
        go_wp2_with fail
        have hI : NdI 1 (mid15 (ts.take k)) := NdI.mid (by rw [List.length_take]; omega) hS.out
        refine (H1.out.run1 HC.out HLW.out hI (by omega) 1 1 false s HS3.out n1_ok u1_ok (write15 HCL.out (by rw [List.length_take]; omega))).mono ?_
        rintro e u2 ⟨A2, m2, d2, rfl, -, h2⟩
        rw [← HTK.out] at h2
        have H2 := Lib.hid (h2.less (xs' := []) (fun _ h => h) (fun _ h => h) (fun _ h => h) (fun _ h => nomatch h))
        have HS2 : Hid (∀ s ∈ ts.take (k + 1), Sm s) := Lib.hid (by
          rw [HTK.out]
          intro y hy
          rcases List.mem_append.1 hy with h | h
          · exact hS.out y h
          · rw [List.mem_singleton.1 h]; exact HS3.out)
        have hI2 := Lib.hid (NdI.mid (by rw [List.length_take]; omega) HS2.out)
        have H3 := Lib.hid (H2.out.mark (.cells #[.int .i64 0, .int .u64 1, .int .u64 0, .slice A2 m2 d2] 68) rfl rfl)
        clear h2 H1 hI hS HTK HCL HS3 hs4 H2
        go_wp2_with fail
        refine (H3.out.run1 HC.out HLW.out hI2.out (by omega) 2 1 true tx15_2 (show tx15_2.size ≤ 300 by decide) n2_ok u1_ok (other15 (ts.take (k + 1)))).mono ?_
        rintro e u4 ⟨A4, m4, d4, rfl, hm4, h4⟩
        obtain rfl : m4 = 0 := hm4
        obtain ⟨t3, ht3⟩ : ∃ y, u2.heap.size = y := ⟨_, rfl⟩
        rw [ht3] at h4 ⊢
        have H5 := Lib.hid ((h4.less (xs' := []) (fun _ h => h) (fun _ h => h) (fun _ h => h) (fun _ h => nomatch h)).mark (.cells #[.int .i64 0, .int .u64 1, .int .u64 0, .slice A4 0 d4] 68) rfl rfl)
        have m3 := H5.out.at_ (.tail _ (.head _))
        have m5 := H5.out.at_ (.head _)
        obtain ⟨y0, _⟩ := cellsAt m3 0 (v := .int .i64 0) rfl
        obtain ⟨y2, _⟩ := cellsAt m3 2 (v := .int .u64 0) rfl
        obtain ⟨z3, _⟩ := cellsAt m5 3 (v := .slice A4 0 d4) rfl
        clear h4 H3 ht3 m3 m5
        go_wp2_with fail
        go_roundw
        case rel => exact ⟨k + 1, by omega, by go_num, HS2, Lib.hid (H5.out.less (fun _ h => h) (fun _ h => nomatch h) (fun _ h => h) (fun _ h => h))⟩
        case measure => simp [intOf]; omega
      · have hb : (clsT s != 2) = true := by rw [bne_iff_ne]; exact hcl
        clear hcl
        go_wp2_with fail
        go_ret
        exact ⟨rfl, H1.out.low⟩
    · obtain rfl : k = l1 := by omega
      rw [List.take_of_length_le (by rw [HN1.out]; exact Nat.le_refl _)] at hD hS
      obtain ⟨wo, hwo⟩ : ∃ x, x = wr := ⟨wr, rfl⟩
      subst hwo
      go_wp2_with fail
      go_loopw [13, 75] (fun q i wr => ∃ (j : Nat) (Q : ByteArray), j ≤ v.size ∧ i = .int .i64 j ∧ q = .string Q ∧ Hid (Q = q15 v.data.toList j) ∧ wr = wo) (fun _ i _ => v.size - (intOf i).toNat)
      case atStart => exact ⟨0, _, Nat.zero_le _, rfl, rfl, Lib.hid rfl, rfl⟩
      case round =>
        obtain ⟨j, Q, hj, rfl, rfl, HQ, rfl⟩ := hrel
        by_cases hlt2 : j < v.size
        · have hQ1 : Q.size ≤ 50 := by rw [HQ.out]; exact q15_size _ _ hv
          have hQ2 : (v.extract j (j + 1)).size ≤ 1 := by rw [ByteArray.size_extract]; omega
          have hQ3 : (Q ++ v.extract j (j + 1)).size ≤ 60 := by rw [ByteArray.size_append]; omega
          cases hb : (((v[j]'hlt2).toNat : Int) == 39) with
          | true =>
            have HQN := Lib.hid (q15_two hlt2 hb HQ.out)
            go_wp2_with fail
            go_roundw
            case rel => exact ⟨j + 1, _, by omega, by go_num, rfl, HQN, True.intro⟩
            case measure => simp [intOf]; omega
          | false =>
            have HQN := Lib.hid (q15_one hlt2 hb HQ.out)
            go_wp2_with fail
            go_roundw
            case rel => exact ⟨j + 1, _, by omega, by go_num, rfl, HQN, True.intro⟩
            case measure => simp [intOf]; omega
        · obtain rfl : j = v.size := by omega
          have hQ1 : Q.size ≤ 50 := by rw [HQ.out]; exact q15_size _ _ hv
          have HI := Lib.hid (NdI.mid (by rw [HN1.out]; omega) hS.out)
          have hvl : v.data.toList.length ≤ 20 := by rw [Array.length_toList]; exact hv
          have HRD := Lib.hid (reads15 ts v hv)
          have HPS := Lib.hid (sm_put15 v.data.toList hvl)
          have HPC := Lib.hid (cls_put15 v.data.toList hvl)
          have HPQ : Hid (⟨#[105, 110, 115, 101, 114, 116, 32, 105, 110, 116, 111, 32, 107, 118, 32, 118, 97, 108, 117, 101, 115, 32, 40, 39, 111, 119, 110, 39, 44, 32]⟩ ++ Q ++ ⟨#[39, 41]⟩ = ba (put15 v.data.toList)) := Lib.hid (by
            rw [HQ.out, ← q15_all, ← pre15, show v.data.toList.length = v.size from Array.length_toList]
            rfl)
          have hP1 : ((⟨#[105, 110, 115, 101, 114, 116, 32, 105, 110, 116, 111, 32, 107, 118, 32, 118, 97, 108, 117, 101, 115, 32, 40, 39, 111, 119, 110, 39, 44, 32]⟩ : ByteArray) ++ Q).size ≤ 100 := by rw [ByteArray.size_append, show (⟨#[105, 110, 115, 101, 114, 116, 32, 105, 110, 116, 111, 32, 107, 118, 32, 118, 97, 108, 117, 101, 115, 32, 40, 39, 111, 119, 110, 39, 44, 32]⟩ : ByteArray).size = 30 from rfl]; omega
          generalize ba (put15 v.data.toList) = P at *
          clear hvl HQ
          go_wp2_with fail
          rw [HPQ.out]
          refine (hD.out.run1 HC.out HLW.out HI.out (by omega) 1 1 false P HPS.out n1_ok u1_ok (write15 HPC.out (by rw [HN1.out]; omega))).mono ?_
          rintro e u1 ⟨A6, m6, d6, rfl, -, h6⟩
          have H6 := Lib.hid (h6.less (xs' := []) (fun _ h => h) (fun _ h => h) (fun _ h => h) (fun _ h => nomatch h))
          have HSP : Hid (∀ s ∈ ts ++ [P], Sm s) := Lib.hid fun y hy => (List.mem_append.1 hy).elim (hS.out y) fun h => by rw [List.mem_singleton.1 h]; exact HPS.out
          have HI6 := Lib.hid (NdI.mid (ts := ts ++ [P]) (by rw [List.length_append, HN1.out]; simp; omega) HSP.out)
          have f6 := fld15 0 1 0 A6 m6 d6 u1
          clear h6 hD HI HPS HPC
          go_wp2_with fail
          clear f6
          refine (H6.out.run1 HC.out HLW.out HI6.out (by omega) 1 1 false tx15_sel (show tx15_sel.size ≤ 300 by decide) n1_ok u1_ok HRD.out).mono ?_
          rintro e u2 ⟨A7, m7, d7, rfl, hm7, h7⟩
          obtain rfl : m7 = 1 := hm7
          have H7 := Lib.hid (h7.mark (.cells #[.int .i64 0, .int .u64 1, .int .u64 0, .slice A7 1 d7] 68) rfl rfl)
          have m7 := H7.out.at_ (.head _)
          obtain ⟨z0, _⟩ := cellsAt m7 0 (v := .int .i64 0) rfl
          obtain ⟨z3, _⟩ := cellsAt m7 3 (v := .slice A7 1 d7) rfl
          have HXR := Lib.hid ((H7.out.xr (.head _)).next (kp_new _ (.cells #[.string v] 9)))
          have HXN : Hid (XR ((u2.alloc (.cells #[.int .i64 0, .int .u64 1, .int .u64 0, .slice A7 1 d7] 68)).alloc (.cells #[.string v] 9)) (some ⟨u2.heap.size + 1, 0, none⟩) 1 [v]) := Lib.hid (by
            have := XR.new (u2.alloc (.cells #[.int .i64 0, .int .u64 1, .int .u64 0, .slice A7 1 d7] 68)) 9 [v]
            rwa [World.size_alloc] at this)
          have H8 := Lib.hid (H7.out.next (kp_new _ (.cells #[.string v] 9)))
          clear h7 H6 m7 HRD H7
          go_wp2_with fail
          clear z0 z3
          refine (texts6_ok A7 _ 1 1 d7 _ [v] [v] _ HXR.out HXN.out (by omega) (by omega) true (Lib.hid (by simp))).mono ?_
          rintro e u3 ⟨rfl, mq, hmq⟩
          have HD9 : Hid (St15 W (X b (mid15 (ts ++ [P]))) (CT cb) [] [] [] [] u3) := Lib.hid ((H8.out.next (by rw [hmq]; exact kp_drewN _ _)).less (fun _ h => h) (fun _ h => nomatch h) (fun _ h => h) (fun _ h => nomatch h))
          clear hmq H8 HXR HXN
          go_wp2_with fail
          refine (lof_ok en _).mono ?_
          rintro e u4 ⟨rfl, rfl⟩
          obtain ⟨us, hus⟩ : ∃ us, ts ++ [P] = us := ⟨_, rfl⟩
          have HUL : Hid (us.length = k + 1) := Lib.hid (by rw [← hus, List.length_append, HN1.out]; rfl)
          have HUS := Lib.hid hus
          rw [hus] at HD9 HI6 HSP
          clear hus HPQ hS
          rcases (show en % 3 = 0 ∨ en % 3 = 1 ∨ en % 3 = 2 by omega) with he | he | he
          · rw [he]
            clear he
            have HE0 : Hid (((u3.alloc (.cells #[] 71)).alloc (.cells #[] 9)).ownsRow u3.heap.size 71 2 (.slice (some ⟨u3.heap.size, 0, none⟩) 0 0) 0 []) := Lib.hid ((own_new_s u3 u3.heap.size 2 71 0 [] rfl (Nat.le_refl _) (Nat.zero_le _)).alloc _)
            have HS0 : Hid (((u3.alloc (.cells #[] 71)).alloc (.cells #[] 9)).ownsRow u3.heap.size 9 1 (.slice (some ⟨u3.heap.size + 1, 0, none⟩) 0 0) 0 []) := Lib.hid (by
              have := own_new_s (u3.alloc (.cells #[] 71)) u3.heap.size 1 9 0 [] rfl (by rw [World.size_alloc]; omega) (Nat.zero_le _)
              rwa [World.size_alloc] at this)
            have KA : Hid (Below u3.heap.size u3 ((u3.alloc (.cells #[] 71)).alloc (.cells #[] 9))) := Lib.hid (kp_alloc (kp_new u3 (.cells #[] 71)) (.cells #[] 9))
            have HSRC : Hid (XR ((u3.alloc (.cells #[] 71)).alloc (.cells #[] 9)) A1 k ts) := Lib.hid (R1.out.next (HD9.out.low.trans (KA.out.mono HD9.out.low.size)))
            have HZ := Lib.hid KA.out.size
            obtain ⟨j0, hj, hj0, hj1, hj2⟩ := info_parts strinfo15
            obtain ⟨i0, hi, hi0, hi1, hi2⟩ := info_parts entinfo
            go_wp2_with (at_builtin; first
              | (refine wpList_append_rds rfl _ _ _ rfl u3.heap.size 9 j0 _ 1 16 Tryz.underlying34 hj hj0 hj1 hj2 rfl (by omega) _ 0 _ rfl HS0.out _ _ k _ (tvs ts) rfl (by rw [tvs_length, HN1.out]; omega) HSRC.out.rd (tvs_one _) (by unfold maxLen; omega) (by omega) HZ.out ?_; intro v3 w3 hown3 hg3; obtain ⟨A3, c3, rfl, _, _⟩ := own_form_s hown3; have KB := KA.out.trans (below_own_s HS0.out hg3 KA.out.size); have HE1 := own_apart HE0.out HS0.out (by decide) hg3; rw [Nat.zero_add, List.nil_append] at hown3; have HS4 := Lib.hid (hown3.alloc (.cells #[.string P] 9)); have HX4 := Lib.hid (XR.new w3 9 [P]); have KC := Lib.hid (kp_alloc KB (.cells #[.string P] 9)); have HE4 := Lib.hid (HE1.alloc (.cells #[.string P] 9)); have HZ4 := Lib.hid KC.out.size; clear hown3 hg3 KB HE1)
              | (refine wpList_append_rds rfl _ _ _ rfl u3.heap.size 9 j0 _ 1 16 Tryz.underlying34 hj hj0 hj1 hj2 rfl (by omega) _ k _ rfl HS4.out _ _ 1 _ (tvs [P]) rfl rfl HX4.out.rd (tvs_one _) (by unfold maxLen; omega) (by omega) HZ4.out ?_; intro v5 w5 hown5 hg5; obtain ⟨A5, c5, rfl, _, _⟩ := own_form_s hown5; have HS5 : Hid (w5.ownsRow u3.heap.size 9 1 (.slice A5 (k + 1) c5) (k + 1) (tvs us)) := Lib.hid (by rw [← HUS.out, tvs_append]; exact hown5); have KD := Lib.hid (KC.out.trans (below_own_s HS4.out hg5 HZ4.out)); have HE5 := Lib.hid (own_apart HE4.out HS4.out (by decide) hg5); clear hown5 hg5 HS4 HX4 KC HE4 HZ4))
            clear HE0 HS0 KA HSRC HZ
            go_loopw [17, 125] (fun o i wr => ∃ (q e : Nat) (D : Option Addr), q ≤ k + 1 ∧ i = .int .i64 q ∧ o = .slice D q e ∧ Hid (wr.ownsRow u3.heap.size 71 2 (.slice D q e) q (lgC ((us.map fun t => (⟨1, t⟩ : Lg)).take q))) ∧ Hid (wr.ownsRow u3.heap.size 9 1 (.slice A5 (k + 1) c5) (k + 1) (tvs us)) ∧ Hid (Below u3.heap.size u3 wr)) (fun _ i _ => k + 1 - (intOf i).toNat)
            case atStart => exact ⟨0, 0, _, Nat.zero_le _, rfl, rfl, HE5, HS5, KD⟩
            case round =>
              obtain ⟨q, e, D, hq, rfl, rfl, ho, hs, hb⟩ := hrel
              clear HE5 HS5 KD
              by_cases hlt3 : q < k + 1
              · have hql : q < us.length := by rw [HUL.out]; exact hlt3
                have HNX : Hid (lgC ((us.map fun t => (⟨1, t⟩ : Lg)).take (q + 1)) = lgC ((us.map fun t => (⟨1, t⟩ : Lg)).take q) ++ [.int .u64 1, .string us[q]]) := Lib.hid (by
                  rw [List.take_succ_eq_append_getElem (by rw [List.length_map]; exact hql), lgC_append, List.getElem_map]
                  rfl)
                obtain ⟨ad5, rfl, _, hc5⟩ := (XR.of_own hs.out).at_ hql
                generalize us[q] = x at *
                have HO1 := Lib.hid (ho.out.alloc (.cells #[.int .u64 1, .string x] 71))
                have HSR : Hid (Rd (wr.alloc (.cells #[.int .u64 1, .string x] 71)) (wr.heap.size + 1) (some ⟨wr.heap.size, 0, none⟩) [.int .u64 1, .string x]) := Lib.hid (by
                  exact Rd.new wr 71 [.int .u64 1, .string x])
                have KA2 := Lib.hid (kp_alloc hb.out (.cells #[.int .u64 1, .string x] 71))
                have HT1 := Lib.hid (hs.out.alloc (.cells #[.int .u64 1, .string x] 71))
                have HSW := Lib.hid KA2.out.size
                clear ho hs
                go_wp2_with (at_builtin; refine wpList_append_rds rfl _ _ _ rfl u3.heap.size 71 i0 _ 2 24 Tryz.underlying51 hi hi0 hi1 hi2 rfl (by omega) _ q _ rfl HO1.out _ _ 1 _ [.int .u64 1, .string x] rfl rfl HSR.out (by simp [Value.oneCell']) (by unfold maxLen; omega) (by omega) HSW.out ?_; intro v6 w6 hown6 hg6; obtain ⟨D6, e6, rfl, _, _⟩ := own_form_s hown6; have HO6 := Lib.hid hown6; have HK6 := Lib.hid (KA2.out.trans (below_own_s HO1.out hg6 HSW.out)); have HT6 := Lib.hid (own_apart HT1.out HO1.out (by decide) hg6); clear hown6 hg6)
                go_roundw
                case rel => exact ⟨q + 1, e6, D6, by omega, by go_num, rfl, Lib.hid (by rw [HNX.out]; exact HO6.out), HT6, HK6⟩
                case measure => simp [intOf]; omega
              · obtain rfl : q = k + 1 := by omega
                have HLL : Hid ((us.map fun t => (⟨1, t⟩ : Lg)).length = k + 1) := Lib.hid (by rw [List.length_map]; exact HUL.out)
                rw [List.take_of_length_le (by rw [HLL.out]; exact Nat.le_refl _)] at ho
                have HSL : Hid (∀ y ∈ us.map fun t => (⟨1, t⟩ : Lg), Sm y.t ∧ y.e = 1) := Lib.hid (by
                  intro y hy
                  obtain ⟨t, ht, rfl⟩ := List.mem_map.1 hy
                  exact ⟨HSP.out t ht, rfl⟩)
                have HCM := Lib.hid (commit15 us (by rw [HUL.out]; omega))
                generalize (us.map fun t => (⟨1, t⟩ : Lg)) = lgs at *
                have HL0 := Lib.hid (HD9.out.lrow hb.out ho.out)
                clear ho hs hb HD9
                go_wp2_with fail
                refine (HL0.out.run1 HC.out HLW.out HI6.out (by omega) 1 1 false tx15_com (show tx15_com.size ≤ 300 by decide) n1_ok u1_ok HCM.out).mono ?_
                rintro e u5 ⟨B5, n5, e5, rfl, -, h5⟩
                have HT := Lib.hid (h5.less (xs' := []) (fun _ h => h) (fun _ h => h) (fun _ h => h) (fun _ h => nomatch h))
                have f5 := fld15 0 1 (us.length : Int) B5 n5 e5 u5
                clear h5 HL0 HCM
                go_wp2_with fail
                clear f5
                refine (HT.out.log1 HC.out (NdI.done (lg := lgs) (by rw [HLL.out]; omega) HSL.out)).mono ?_
                rintro e u6 ⟨A8, m8, d8, ⟨rfl, hmd⟩, h8⟩
                have hm8 : m8 = k + 1 := (h8.lr (.head _)).len.symm.trans HLL.out
                subst hm8
                have H8 := Lib.hid h8
                clear h8 HT
                go_wp2_with fail
                refine (lentries_new A8 (k + 1) d8 lgs _ (H8.out.lr (.head _)) (by omega)).mono ?_
                rintro e u7 ⟨A9, c9, rfl, hl9, hn9, k9⟩
                have H9 := Lib.hid (H8.out.row k9 hl9 hn9)
                clear hl9 hn9 k9 H8
                go_wp2_with fail
                refine (rsame15_ok A9 _ (k + 1) (k + 1) c9 _ lgs lgs _ (H9.out.lr (.head _)) (H9.out.lr (.tail _ (.tail _ (.head _)))) (by omega) (by omega) true (Lib.hid (by simp))).mono ?_
                rintro e u8 ⟨rfl, mq2, hmq2⟩
                have k8 : Below u7.heap.size u7 u8 := by rw [hmq2]; exact kp_drewN _ _
                have H10 := Lib.hid ((H9.out.next k8).less (rs' := []) (fun _ h => h) (fun _ h => h) (fun _ h => nomatch h) (fun _ h => h))
                clear hmq2 H9 k8
                go_wp2_with fail
                refine (H10.out.close1 HC.out (NdI.done (lg := lgs) (by rw [HLL.out]; omega) HSL.out) (by omega) 1 n1_ok (closed15 lgs).1 (b0 := false) (by rw [(closed15 lgs).2]; rfl)).mono ?_
                rintro e u9 ⟨rfl, h11⟩
                have H11 := Lib.hid h11
                clear h11 H10
                go_wp2_with fail
                refine (H11.out.run1 HC.out HLW.out (NdI.done (lg := lgs) (by rw [HLL.out]; omega) HSL.out) (by omega) 1 1 false tx15_com (show tx15_com.size ≤ 300 by decide) n1_ok u1_ok (ended15 lgs)).mono ?_
                rintro e u10 ⟨A12, m12, d12, rfl, -, h12⟩
                have f12 := fld15 7 1 (lgs.length : Int) A12 m12 d12 u10
                have HLO := Lib.hid h12.low
                clear h12 H11
                go_wp2_with fail
                go_ret
                exact ⟨rfl, HLO.out⟩
          · rw [he]
            clear he
            have HL0 := Lib.hid (HD9.out.lrow (kp_new u3 (.cells #[] 71)) (own_new_s u3 u3.heap.size 2 71 0 [] rfl (Nat.le_refl _) (Nat.zero_le _)) (lg := []))
            go_wp2_with fail
            refine (HL0.out.run1 HC.out HLW.out HI6.out (by omega) 1 1 false tx15_rol (show tx15_rol.size ≤ 300 by decide) n1_ok u1_ok (roll15 us)).mono ?_
            rintro e u5 ⟨B5, n5, e5, rfl, -, h5⟩
            have HT := Lib.hid (h5.less (xs' := []) (fun _ h => h) (fun _ h => h) (fun _ h => h) (fun _ h => nomatch h))
            have f5 := fld15 0 1 0 B5 n5 e5 u5
            clear h5 HL0
            go_wp2_with fail
            clear f5
            refine (HT.out.log1 HC.out (NdI.done (lg := []) (Nat.zero_le _) (fun _ h => nomatch h))).mono ?_
            rintro e u6 ⟨A8, m8, d8, ⟨rfl, hmd⟩, h8⟩
            have hm8 : m8 = 0 := (h8.lr (.head _)).len.symm.trans (rfl)
            subst hm8
            have H8 := Lib.hid h8
            clear h8 HT
            go_wp2_with fail
            refine (lentries_new A8 0 d8 ([] : List Lg) _ (H8.out.lr (.head _)) (by omega)).mono ?_
            rintro e u7 ⟨A9, c9, rfl, hl9, hn9, k9⟩
            have H9 := Lib.hid (H8.out.row k9 hl9 hn9)
            clear hl9 hn9 k9 H8
            go_wp2_with fail
            refine (rsame15_ok A9 _ 0 0 c9 _ ([] : List Lg) ([] : List Lg) _ (H9.out.lr (.head _)) (H9.out.lr (.tail _ (.tail _ (.head _)))) (by omega) (by omega) true (Lib.hid (by simp))).mono ?_
            rintro e u8 ⟨rfl, mq2, hmq2⟩
            have k8 : Below u7.heap.size u7 u8 := by rw [hmq2]; exact kp_drewN _ _
            have H10 := Lib.hid ((H9.out.next k8).less (rs' := []) (fun _ h => h) (fun _ h => h) (fun _ h => nomatch h) (fun _ h => h))
            clear hmq2 H9 k8
            go_wp2_with fail
            refine (H10.out.close1 HC.out (NdI.done (lg := []) (Nat.zero_le _) (fun _ h => nomatch h)) (by omega) 1 n1_ok (closed15 ([] : List Lg)).1 (b0 := false) (by rfl)).mono ?_
            rintro e u9 ⟨rfl, h11⟩
            have H11 := Lib.hid h11
            clear h11 H10
            go_wp2_with fail
            refine (H11.out.run1 HC.out HLW.out (NdI.done (lg := []) (Nat.zero_le _) (fun _ h => nomatch h)) (by omega) 1 1 false tx15_com (show tx15_com.size ≤ 300 by decide) n1_ok u1_ok (ended15 ([] : List Lg))).mono ?_
            rintro e u10 ⟨A12, m12, d12, rfl, -, h12⟩
            have f12 := fld15 7 1 0 A12 m12 d12 u10
            have HLO := Lib.hid h12.low
            clear h12 H11
            go_wp2_with fail
            go_ret
            exact ⟨rfl, HLO.out⟩
          · rw [he]
            clear he
            have HL0 := Lib.hid (HD9.out.lrow (kp_new u3 (.cells #[] 71)) (own_new_s u3 u3.heap.size 2 71 0 [] rfl (Nat.le_refl _) (Nat.zero_le _)) (lg := []))
            go_wp2_with fail
            refine (HL0.out.close1 HC.out HI6.out (by omega) 1 n1_ok (close15 us).1 (b0 := true) (by rw [(close15 us).2]; rfl)).mono ?_
            rintro e u5 ⟨rfl, h5⟩
            have HT := Lib.hid h5
            clear h5 HL0
            go_wp2_with fail
            refine (HT.out.log1 HC.out (NdI.done (lg := []) (Nat.zero_le _) (fun _ h => nomatch h))).mono ?_
            rintro e u6 ⟨A8, m8, d8, ⟨rfl, hmd⟩, h8⟩
            have hm8 : m8 = 0 := (h8.lr (.head _)).len.symm.trans (rfl)
            subst hm8
            have H8 := Lib.hid h8
            clear h8 HT
            go_wp2_with fail
            refine (lentries_new A8 0 d8 ([] : List Lg) _ (H8.out.lr (.head _)) (by omega)).mono ?_
            rintro e u7 ⟨A9, c9, rfl, hl9, hn9, k9⟩
            have H9 := Lib.hid (H8.out.row k9 hl9 hn9)
            clear hl9 hn9 k9 H8
            go_wp2_with fail
            refine (rsame15_ok A9 _ 0 0 c9 _ ([] : List Lg) ([] : List Lg) _ (H9.out.lr (.head _)) (H9.out.lr (.tail _ (.tail _ (.head _)))) (by omega) (by omega) true (Lib.hid (by simp))).mono ?_
            rintro e u8 ⟨rfl, mq2, hmq2⟩
            have k8 : Below u7.heap.size u7 u8 := by rw [hmq2]; exact kp_drewN _ _
            have H10 := Lib.hid ((H9.out.next k8).less (rs' := []) (fun _ h => h) (fun _ h => h) (fun _ h => nomatch h) (fun _ h => h))
            clear hmq2 H9 k8
            go_wp2_with fail
            refine (H10.out.close1 HC.out (NdI.done (lg := []) (Nat.zero_le _) (fun _ h => nomatch h)) (by omega) 1 n1_ok (closed15 ([] : List Lg)).1 (b0 := false) (by rfl)).mono ?_
            rintro e u9 ⟨rfl, h11⟩
            have H11 := Lib.hid h11
            clear h11 H10
            go_wp2_with fail
            refine (H11.out.run1 HC.out HLW.out (NdI.done (lg := []) (Nat.zero_le _) (fun _ h => nomatch h)) (by omega) 1 1 false tx15_com (show tx15_com.size ≤ 300 by decide) n1_ok u1_ok (ended15 ([] : List Lg))).mono ?_
            rintro e u10 ⟨A12, m12, d12, rfl, -, h12⟩
            have f12 := fld15 7 1 0 A12 m12 d12 u10
            have HLO := Lib.hid h12.low
            clear h12 H11
            go_wp2_with fail
            go_ret
            exact ⟨rfl, HLO.out⟩
end
end
end Go.Proofs.YtaoegiohnebnhaaGreatDoor
