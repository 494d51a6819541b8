/-
  Contracts and plain functions that the law stands on, part 7 of 16.
-/
import Derived.Test.YtaoegiohnebnhaaGreatDoorQA6
import Derived.Laws.StructEq
import Derived.KernelRfl
namespace Go.Proofs.YtaoegiohnebnhaaGreatDoor
/- Three things of one kind, in blocks of their own, as one thing (no function of the program is named here). -/
section
open Go.RowKit
set_option maxRecDepth 100000

section
variable {α : Type} {Y : Nat → α → Thing} {bs : Nat → Nat} {ns : Nat → α} {S : Nat → Prop} {w w' : World} {P : Program}
def Tri (Y : Nat → α → Thing) (bs : Nat → Nat) (ns : Nat → α) : Thing where
  p := fun S w => ∃ Ss : Nat → Nat → Prop, (∀ i, i < 3 → (Y (bs i) (ns i)).p (Ss i) w) ∧ (∀ i j, i < 3 → j < 3 → i ≠ j → ∀ k, Ss i k → ¬ Ss j k) ∧ ∀ k, S k ↔ ∃ i, i < 3 ∧ Ss i k
  keep := fun ⟨Ss, h1, h2, h3⟩ hk hz => ⟨Ss, fun i hi => (Y (bs i) (ns i)).keep (h1 i hi) (fun k e => hk k ((h3 k).2 ⟨i, hi, e⟩)) hz, h2, h3⟩
  lt := fun ⟨_, h1, _, h3⟩ k hk => by
    obtain ⟨i, hi, e⟩ := (h3 k).1 hk
    exact (Y (bs i) (ns i)).lt (h1 i hi) k e
/-- one of them is another -/
def upd3 (ns : Nat → α) (i : Nat) (x : α) : Nat → α := fun j => if j = i then x else ns j
theorem upd3_at (ns : Nat → α) (i : Nat) (x : α) : upd3 ns i x i = x := if_pos rfl
theorem upd3_ne (ns : Nat → α) {i j : Nat} (x : α) (h : j ≠ i) : upd3 ns i x j = ns j := if_neg h
theorem Tri.make {Ss : Nat → Nat → Prop} (h : ∀ i, i < 3 → (Y (bs i) (ns i)).p (Ss i) w) (hd : ∀ i j, i < 3 → j < 3 → i ≠ j → ∀ k, Ss i k → ¬ Ss j k) : (Tri Y bs ns).p (fun k => ∃ i, i < 3 ∧ Ss i k) w := ⟨Ss, h, hd, fun _ => Iff.rfl⟩
/-- what a call on one of them leaves -/
theorem Tri.turn {i : Nat} (hi : i < 3) {x : α} {Ss : Nat → Nat → Prop} (h1 : ∀ i, i < 3 → (Y (bs i) (ns i)).p (Ss i) w) (h2 : ∀ i j, i < 3 → j < 3 → i ≠ j → ∀ k, Ss i k → ¬ Ss j k) (h3 : ∀ k, S k ↔ ∃ i, i < 3 ∧ Ss i k) (ht : Turn (Y (bs i) x) (Ss i) w w') :
    Turn (Tri Y bs (upd3 ns i x)) S w w' := by
  obtain ⟨⟨S', k1, k2⟩, ko⟩ := ht
  have hlt : ∀ j, j < 3 → ∀ k, Ss j k → k < w.heap.size := fun j hj k hk => (Y (bs j) (ns j)).lt (h1 j hj) k hk
  refine ⟨⟨fun k => ∃ j, j < 3 ∧ (upd3 Ss i S') j k, ⟨upd3 Ss i S', fun j hj => ?_, fun a c ha hc hac k e1 e2 => ?_, fun _ => Iff.rfl⟩, fun k hk => ?_⟩, ko.wide fun k hk => (h3 k).2 ⟨i, hi, hk⟩⟩
  · by_cases hji : j = i
    · subst hji
      rw [upd3_at, upd3_at]
      exact k1
    · rw [upd3_ne ns x hji, upd3_ne Ss S' hji]
      exact Thing.off (h1 j hj) ko fun k e1 e2 => h2 j i hj hi hji k e1 e2
  · by_cases hai : a = i
    · subst hai
      rw [upd3_at] at e1
      rw [upd3_ne Ss S' (fun e => hac e.symm)] at e2
      rcases k2 k e1 with e | e
      · exact h2 a c ha hc hac k e e2
      · have := hlt c hc k e2; omega
    · rw [upd3_ne Ss S' hai] at e1
      by_cases hci : c = i
      · subst hci
        rw [upd3_at] at e2
        rcases k2 k e2 with e | e
        · exact h2 a c ha hc hac k e1 e
        · have := hlt a ha k e1; omega
      · rw [upd3_ne Ss S' hci] at e2
        exact h2 a c ha hc hac k e1 e2
  · obtain ⟨j, hj, e⟩ := hk
    by_cases hji : j = i
    · subst hji
      rw [upd3_at] at e
      exact (k2 k e).imp (fun e => (h3 k).2 ⟨j, hj, e⟩) id
    · rw [upd3_ne Ss S' hji] at e
      exact .inl ((h3 k).2 ⟨j, hj, e⟩)
theorem Tri.op {f : FuncId} {args : Array Value} {Q : Ending → World → Prop} {i : Nat} (h : (Tri Y bs ns).p S w) (hi : i < 3) {x : α} (hop : ∀ S', (Y (bs i) (ns i)).p S' w → Calls P f args w fun e w' => Q e w' ∧ Turn (Y (bs i) x) S' w w') :
    Calls P f args w fun e w' => Q e w' ∧ Turn (Tri Y bs (upd3 ns i x)) S w w' := by
  obtain ⟨Ss, h1, h2, h3⟩ := h
  exact (hop (Ss i) (h1 i hi)).mono fun _ _ ⟨hq, ht⟩ => ⟨hq, Tri.turn hi h1 h2 h3 ht⟩
theorem Tri.op2 {f : FuncId} {args : Array Value} {Q : Ending → World → Prop} {i j : Nat} (h : (Tri Y bs ns).p S w) (hi : i < 3) (hj : j < 3) (hij : i ≠ j) {x : α} (hop : ∀ S' T', (Y (bs i) (ns i)).p S' w → (Y (bs j) (ns j)).p T' w → (∀ k, S' k → ¬ T' k) → Calls P f args w fun e w' => Q e w' ∧ Turn (Y (bs i) x) S' w w') :
    Calls P f args w fun e w' => Q e w' ∧ Turn (Tri Y bs (upd3 ns i x)) S w w' := by
  obtain ⟨Ss, h1, h2, h3⟩ := h
  exact (hop (Ss i) (Ss j) (h1 i hi) (h1 j hj) (h2 i j hi hj hij)).mono fun _ _ ⟨hq, ht⟩ => ⟨hq, Tri.turn hi h1 h2 h3 ht⟩
theorem Tri.ask {f : FuncId} {args : Array Value} {Q : Ending → World → Prop} {i : Nat} (h : (Tri Y bs ns).p S w) (hi : i < 3) (hop : ∀ S', (Y (bs i) (ns i)).p S' w → Calls P f args w fun e w' => Q e w' ∧ Below w.heap.size w w') :
    Calls P f args w fun e w' => Q e w' ∧ Below w.heap.size w w' := by
  obtain ⟨Ss, h1, _⟩ := h
  exact hop (Ss i) (h1 i hi)
end
end

/- Layer 15: acts, plain and as rows; the law's large: contract. -/
section
open Go.RowKit
set_option maxRecDepth 100000

/-- an act -/
structure Ac8 where
  d : Int
  nd : Int
  fr : Int
  c : Int
  m : Int
  e : Int
  rd : Bool
  t : ByteArray
instance : Inhabited Ac8 := ⟨⟨0, 0, 0, 0, 0, 0, false, ⟨#[]⟩⟩⟩
def Ac8.cells (x : Ac8) : List Value := [.int .i64 x.d, .int .i64 x.nd, .int .i64 x.fr, .int .i64 x.c, .int .i64 x.m, .int .u64 x.e, .bool x.rd, .string x.t]
structure Ac8.Fine (x : Ac8) : Prop where
  nd : I64n x.nd
  fr : I64n x.fr
  c : I64n x.c
  m : I64n x.m
  e : U64n x.e
/-- what an act answers -/
structure To15 where
  r : Rp
  is : Bool
  many : Int
def noRp : Rp := ⟨0, 0, 0, []⟩
/-- which one of three -/
def of3 (n : Int) : Nat := (n % 3).toNat
theorem of3_lt (n : Int) : of3 n < 3 := by unfold of3; omega
theorem of3_val (n : Int) : ((of3 n : Nat) : Int) = n % 3 := by unfold of3; omega
/-- an act on three nodes -/
def actN (ns : Nat → Nd) (x : Ac8) : To15 × (Nat → Nd) :=
  if x.d = 0 then (⟨(runNd (ns (of3 x.nd)) x.c x.e x.rd x.t).1, false, 0⟩, upd3 ns (of3 x.nd) (runNd (ns (of3 x.nd)) x.c x.e x.rd x.t).2)
  else if x.d = 1 then (⟨noRp, decide (0 ≤ idxOp x.c (ns (of3 x.nd)).op), 0⟩, upd3 ns (of3 x.nd) (closeNd (ns (of3 x.nd)) x.c))
  else if x.d = 2 then (⟨noRp, decide ((ns (of3 x.nd)).ep ≤ x.e), 0⟩, upd3 ns (of3 x.nd) (leadNd (ns (of3 x.nd)) x.e))
  else (⟨noRp, false, (copyNd (ns (of3 x.nd)) (ns (of3 x.fr)) x.m).1⟩, upd3 ns (of3 x.nd) (copyNd (ns (of3 x.nd)) (ns (of3 x.fr)) x.m).2)
theorem actN_inv {ns : Nat → Nd} {k : Nat} {x : Ac8} (h : ∀ i, NdI k (ns i)) (hx : x.Fine) (ht : Sm x.t) : ∀ i, NdI (k + 1) ((actN ns x).2 i) := by
  have key : ∀ (i : Nat) (n : Nd), NdI (k + 1) n → ∀ j, NdI (k + 1) (upd3 ns i n j) := fun i n hn j => by
    by_cases hj : j = i
    · subst hj; rw [upd3_at]; exact hn
    · rw [upd3_ne ns n hj]; exact (h j).more (Nat.le_succ k)
  intro i
  unfold actN
  split
  · exact key _ _ ((h _).run ht hx.c.1 hx.c.2) i
  split
  · exact key _ _ (((h _).close _).more (Nat.le_succ k)) i
  split
  · exact key _ _ (((h _).lead hx.e.1 hx.e.2).more (Nat.le_succ k)) i
  · exact key _ _ (((h _).copy (h _) _).more (Nat.le_succ k)) i
def ac8C (ts : List Ac8) : List Value := ts.flatMap Ac8.cells
theorem ac8C_length : ∀ ts : List Ac8, (ac8C ts).length = ts.length * 8
  | [] => rfl
  | r :: rs => by
    have := ac8C_length rs
    simp only [ac8C, List.flatMap_cons, List.length_append, List.length_cons, Ac8.cells, List.length_nil] at this ⊢
    omega
theorem ac8C_at : ∀ (rs : List Ac8) (j : Nat) (h : j < rs.length) (i : Nat) (v : Value), rs[j].cells[i]? = some v → (ac8C rs)[j * 8 + i]? = some v
  | [], _, h, _, _, _ => by simp at h
  | r :: rs, 0, _, i, v, hv => by
    have hv' : r.cells[i]? = some v := hv
    have hi : i < r.cells.length := (List.getElem?_eq_some_iff.1 hv').1
    simp only [ac8C, List.flatMap_cons, Nat.zero_mul, Nat.zero_add]
    rw [List.getElem?_append_left hi]
    exact hv'
  | r :: rs, j + 1, h, i, v, hv => by
    have ih := ac8C_at rs j (by simpa using h) i v hv
    have hl : r.cells.length = 8 := rfl
    simp only [ac8C, List.flatMap_cons] at ih ⊢
    rw [List.getElem?_append_right (by rw [hl]; omega), hl]
    rw [show (j + 1) * 8 + i - 8 = j * 8 + i by omega]
    exact ih
/-- a row of acts that is read -/
structure AE (w : World) (A : Option Addr) (n : Nat) (ts : List Ac8) : Prop where
  len : ts.length = n
  rd : Rd w w.heap.size A (ac8C ts)
theorem AE.next {w w' : World} {A : Option Addr} {n : Nat} {ts : List Ac8} (h : AE w A n ts) (hb : Below w.heap.size w w') : AE w' A n ts := ⟨h.len, (h.rd.below hb (Nat.le_refl _)).more hb.size⟩
theorem AE.at_ {w : World} {A : Option Addr} {n : Nat} {ts : List Ac8} (h : AE w A n ts) {j : Nat} (hj : j < ts.length) : ∃ ad, A = some ad ∧ ad.block < w.heap.size ∧ ∀ w', Below w.heap.size w w' →
    w'.cell? (ad.add (j * 8)) = some (.int .i64 ts[j].d) ∧ w'.cell? ⟨(ad.add (j * 8)).block, (ad.add (j * 8)).off + 1, none⟩ = some (.int .i64 ts[j].nd) ∧ w'.cell? ⟨(ad.add (j * 8)).block, (ad.add (j * 8)).off + 2, none⟩ = some (.int .i64 ts[j].fr) ∧ w'.cell? ⟨(ad.add (j * 8)).block, (ad.add (j * 8)).off + 3, none⟩ = some (.int .i64 ts[j].c) ∧
    w'.cell? ⟨(ad.add (j * 8)).block, (ad.add (j * 8)).off + 4, none⟩ = some (.int .i64 ts[j].m) ∧ w'.cell? ⟨(ad.add (j * 8)).block, (ad.add (j * 8)).off + 5, none⟩ = some (.int .u64 ts[j].e) ∧ w'.cell? ⟨(ad.add (j * 8)).block, (ad.add (j * 8)).off + 6, none⟩ = some (.bool ts[j].rd) ∧ w'.cell? ⟨(ad.add (j * 8)).block, (ad.add (j * 8)).off + 7, none⟩ = some (.string ts[j].t) := by
  obtain ⟨ad, hA, hb, hc⟩ := h.rd.addr (by rw [ac8C_length]; omega)
  have key : ∀ (w' : World) (i : Nat) (v : Value), Below w.heap.size w w' → ts[j].cells[i]? = some v → w'.cell? (ad.add (j * 8 + i)) = some v := fun w' i v hw hv => by
    rw [hw.cell (by rw [add_block]; exact hb)]
    exact hc _ _ (ac8C_at ts j hj i v hv)
  have a1 : ∀ i, i ≠ 0 → (⟨(ad.add (j * 8)).block, (ad.add (j * 8)).off + i, none⟩ : Addr) = ad.add (j * 8 + i) := fun i hi => by rw [← add_add]; unfold Addr.add; simp [hi]
  refine ⟨ad, hA, hb, fun w' hw => ⟨key w' 0 _ hw rfl, ?_, ?_, ?_, ?_, ?_, ?_, ?_⟩⟩
  · rw [a1 1 (by decide)]; exact key w' 1 _ hw rfl
  · rw [a1 2 (by decide)]; exact key w' 2 _ hw rfl
  · rw [a1 3 (by decide)]; exact key w' 3 _ hw rfl
  · rw [a1 4 (by decide)]; exact key w' 4 _ hw rfl
  · rw [a1 5 (by decide)]; exact key w' 5 _ hw rfl
  · rw [a1 6 (by decide)]; exact key w' 6 _ hw rfl
  · rw [a1 7 (by decide)]; exact key w' 7 _ hw rfl
def acO (x : Ac8) : Obj := .cells #[.int .i64 x.d, .int .i64 x.nd, .int .i64 x.fr, .int .i64 x.c, .int .i64 x.m, .int .u64 x.e, .bool x.rd, .string x.t] 32 (0, 0)
set_option maxHeartbeats 8000000 in
/-- acts that are looked at -/
theorem llarge15_ok (A : Option Addr) (n c : Nat) (ts : List Ac8) (w : World) (hx : AE w A n ts) :
    Calls Tryz.prog 9 #[.slice A n c] w fun e w' => ∃ b, e = .returned (.bool b) ∧ (b = false → n ≤ 60 ∧ ∀ x ∈ ts, Sm x.t) ∧ Below w.heap.size w w' := by
  have HX := Lib.hid hx
  have HL := Lib.hid hx.len
  clear hx
  by_cases hbig : 60 < n
  · have h2 : (60 : Int) < (n : Int) := by omega
    go_enter Tryz.func9, Tryz.ntmps9
    go_wp2_with fail
    go_ret
    exact ⟨true, rfl, (fun h => by cases h), Below.refl _ _⟩
  have h2 : ¬ (60 : Int) < (n : Int) := by omega
  go_enter Tryz.func9, Tryz.ntmps9
  go_wp2_with fail
  go_loopw [10] (fun i wr => ∃ q : Nat, q ≤ n ∧ i = .int .i64 q ∧ Hid (∀ j (hj : j < ts.length), j < q → Sm ts[j].t) ∧ Hid (Below w.heap.size w wr)) (fun i _ => n - (intOf i).toNat)
  case atStart => exact ⟨0, Nat.zero_le _, rfl, Lib.hid (fun j _ h => absurd h (Nat.not_lt_zero _)), Lib.hid (Below.refl _ _)⟩
  case round =>
    obtain ⟨q, hq, rfl, he, hw⟩ := hrel
    by_cases hlt : q < n
    · have hql : q < ts.length := by rw [HL.out]; exact hlt
      obtain ⟨ad, rfl, _, hc⟩ := HX.out.at_ hql
      obtain ⟨d0, d1, d2, d3, d4, d5, d6, d7⟩ := hc wr hw.out
      have HKW := Lib.hid (kp_alloc hw.out (acO ts[q]))
      unfold acO at HKW
      have hsz : Sm ts[q].t ∨ 300 < ts[q].t.size := by unfold Sm; omega
      have HNX : Hid (Sm ts[q].t → ∀ j (hj : j < ts.length), j < q + 1 → Sm ts[j].t) := Lib.hid fun h j hj hjq => by
        by_cases e : j = q
        · subst e; exact h
        · exact he.out j hj (by omega)
      clear hc he
      generalize ts[q].d = x0 at *
      generalize ts[q].nd = x1 at *
      generalize ts[q].fr = x2 at *
      generalize ts[q].c = x3 at *
      generalize ts[q].m = x4 at *
      generalize ts[q].e = x5 at *
      generalize ts[q].rd = x6 at *
      generalize ts[q].t = x7 at *
      rcases hsz with hs | hs
      · have HS := Lib.hid (HNX.out hs)
        have hs2 : ¬ (300 : Int) < (x7.size : Int) := by unfold Sm at hs; omega
        clear hs HNX
        go_wp2_with fail
        go_roundw
        case rel => exact ⟨q + 1, by omega, by go_num, HS, HKW⟩
        case measure => simp [intOf]; omega
      · have hs2 : (300 : Int) < (x7.size : Int) := by omega
        clear hs HNX
        go_wp2_with fail
        go_ret
        exact ⟨true, rfl, (fun h => by cases h), HKW.out⟩
    · obtain rfl : q = n := by omega
      go_wp2_with fail
      go_ret
      exact ⟨false, rfl, fun _ => ⟨by omega, fun x hx => by
        obtain ⟨j, hj, rfl⟩ := List.getElem_of_mem hx
        exact he.out j hj (by have := HL.out; omega)⟩, hw.out⟩
end

/- The document's layer 15: entries that are compared; Same, Alike: contracts. -/
section
open Go.RowKit
set_option maxRecDepth 100000

theorem neq_ents (T : TypeId) (hT : T = 71) (k k' : Int) (t t' : ByteArray) (w : World) : (binOp .neq T (.agg #[.int .u64 k, .string t]) (.agg #[.int .u64 k', .string t'])).run Tryz.prog w = .ok (.bool (!decide ((⟨k, t⟩ : Lg) = ⟨k', t'⟩))) w := by
  subst hT
  have hf : (Tryz.prog.fieldsOf 71) = (match Tryz.prog.underlying 71 with | some (.struct fs) => fs | _ => #[]) := rfl
  have hu := Tryz.underlying71
  rw [hu] at hf
  rw [run_neq_struct, run_equalIn_agg (P := Tryz.prog) w 9999 _ _ _ (by rw [hf]; exact hu) (by kernel_rfl), hf]
  have h9 := Tryz.underlying9
  have hz9 := Tryz.sizeOf9
  have ha9 := Tryz.isAgg9
  have h8 := Tryz.underlying30
  have hz8 := Tryz.sizeOf30
  have ha8 := Tryz.isAgg30
  have p1 : ∀ (x : Int) (u : ByteArray) (w : World), (part 30 #[.int .u64 x, .string u] 0).run Tryz.prog w = .ok (.int .u64 x) w := fun x u w => by simp [part, hz8, ha8]
  have p2 : ∀ (x : Int) (u : ByteArray) (w : World), (part 9 #[.int .u64 x, .string u] 1).run Tryz.prog w = .ok (.string u) w := fun x u w => by simp [part, hz9, ha9]
  have e1 : ∀ (x y : Int) (w : World), (Op.equalIn 9999 30 (.int .u64 x) (.int .u64 y)).run Tryz.prog w = .ok (x == y) w := fun x y w => run_equalIn_int w 9998 30 .u64 .u64 x y h8
  have e2 : ∀ (x y : ByteArray) (w : World), (Op.equalIn 9999 9 (.string x) (.string y)).run Tryz.prog w = .ok (x.toList == y.toList) w := fun x y w => run_equalIn_string w 9998 9 x y h9
  have ht : t.toList = t'.toList ↔ t = t' := ⟨bytes_ext, fun h => by rw [h]⟩
  by_cases h1 : k = k'
  · by_cases h2 : t = t'
    · simp [Op.eqFields, p1, p2, e1, e2, h1, h2]
    · simp [Op.eqFields, p1, p2, e1, e2, ht, h1, h2]
  · simp [Op.eqFields, p1, p2, e1, e2, h1]

set_option maxHeartbeats 2000000 in
theorem rsame15_ok (A A' : Option Addr) (n n' c c' : Nat) (xs ys : List Lg) (w : World) (hx : LR w A n xs) (hy : LR w A' n' ys) (hn : n ≤ 1000000) (hn' : n' ≤ 1000000) (b : Bool) (hb : Hid (decide (xs = ys) = b)) :
    Calls Tryz.prog 19 #[.slice A n c, .slice A' n' c'] w fun e w' => e = .returned (.bool b) ∧ ∃ m, w' = w.drewN m := by
  by_cases hll : n = n'
  · subst hll
    have hlx := Lib.hid hx.len
    have hly := Lib.hid hy.len
    go_enter Tryz.func19, Tryz.ntmps19
    go_wp2
    go_loopw [5] (fun i wr => ∃ k m : Nat, k ≤ n ∧ i = .int .i64 k ∧ Hid (xs.take k = ys.take k) ∧ wr = w.drewN m) (fun i _ => n - (intOf i).toNat)
    case atStart => exact ⟨0, 0, Nat.zero_le _, rfl, Lib.hid (by simp), rfl⟩
    case round =>
      obtain ⟨k, m, hk, rfl, he, hw⟩ := hrel
      have hx' : LR wr A n xs := by subst hw; exact hx.next (kp_drewN _ _)
      have hy' : LR wr A' n ys := by subst hw; exact hy.next (kp_drewN _ _)
      have HW := Lib.hid hw
      clear hw hx hy
      by_cases hlt : k < n
      · have hkx : k < xs.length := by rw [hlx.out]; omega
        have hky : k < ys.length := by rw [hly.out]; omega
        obtain ⟨ad, rfl, _, hc⟩ := hx'.at_ hkx
        obtain ⟨ad', rfl, _, hc'⟩ := hy'.at_ hky
        obtain ⟨c0, c1⟩ := hc _ (Below.refl _ _)
        obtain ⟨d0, d1⟩ := hc' _ (Below.refl _ _)
        clear hc hc' hx' hy'
        have hE := fun u => neq_ents 71 rfl xs[k].e ys[k].e xs[k].t ys[k].t u
        by_cases hee : xs[k] = ys[k]
        · have hsn : Hid (xs.take (k + 1) = ys.take (k + 1)) := Lib.hid (take_same6 hkx hky he.out hee)
          have hd : (!decide ((⟨xs[k].e, xs[k].t⟩ : Lg) = ⟨ys[k].e, ys[k].t⟩)) = false := by
            rw [decide_eq_true (by exact hee)]; rfl
          rw [hd] at hE
          clear hee hd
          generalize xs[k].e = x at *
          generalize ys[k].e = y at *
          generalize xs[k].t = s at *
          generalize ys[k].t = t at *
          go_wp2
          go_quiet (fail)
          go_wp2
          go_roundw
          case rel => exact ⟨k + 1, m + nq, by omega, by go_num, hsn, by rw [HW.out, World.drewN_drewN]⟩
          case measure => simp [intOf]; omega
        · have hf : b = false := by
            rw [← hb.out]
            simp only [decide_eq_false_iff_not]
            rintro rfl
            exact hee rfl
          subst hf
          have hd : (!decide ((⟨xs[k].e, xs[k].t⟩ : Lg) = ⟨ys[k].e, ys[k].t⟩)) = true := by
            rw [decide_eq_false (by exact hee)]; rfl
          rw [hd] at hE
          clear hee hd
          generalize xs[k].e = x at *
          generalize ys[k].e = y at *
          generalize xs[k].t = s at *
          generalize ys[k].t = t at *
          go_wp2
          go_quiet (fail)
          go_wp2
          go_ret
          exact ⟨rfl, m + nq, by rw [HW.out, World.drewN_drewN]⟩
      · have hf : b = true := by
          rw [← hb.out]
          have h1 := he.out
          rw [List.take_of_length_le (by rw [hlx.out]; omega), List.take_of_length_le (by rw [hly.out]; omega)] at h1
          simp [h1]
        subst hf
        go_wp2
        go_ret
        exact ⟨rfl, m, HW.out⟩
  · have hf : b = false := by
      rw [← hb.out]
      simp only [decide_eq_false_iff_not]
      rintro rfl
      have := hx.len
      have := hy.len
      omega
    subst hf
    have ht : ((n : Int) != (n' : Int)) = true := by rw [bne_iff_ne]; omega
    go_enter Tryz.func19, Tryz.ntmps19
    go_wp2
    go_ret
    exact ⟨rfl, 0, rfl⟩

/-- replies that are the same -/
theorem ralike15_ok (r : Rp) (A A' : Option Addr) (m m' d d' : Nat) (w : World) (hx : XR w A m r.ts) (hy : XR w A' m' r.ts) (hm : m ≤ 1000000) (hm' : m' ≤ 1000000) :
    Calls Tryz.prog 14 #[.agg #[.int .i64 r.e, .int .u64 r.ep, .int .u64 r.pl, .slice A m d], .agg #[.int .i64 r.e, .int .u64 r.ep, .int .u64 r.pl, .slice A' m' d']] w fun e w' => e = .returned (.bool true) ∧ Below w.heap.size w w' := by
  obtain ⟨e, ep, pl, ts⟩ := r
  dsimp only at hx hy ⊢
  obtain ⟨w2, hw2⟩ : ∃ u, (w.alloc (.cells #[.int .i64 e, .int .u64 ep, .int .u64 pl, .slice A m d] 36)).alloc (.cells #[.int .i64 e, .int .u64 ep, .int .u64 pl, .slice A' m' d'] 36) = u := ⟨_, rfl⟩
  have k2 : Below w.heap.size w w2 := hw2 ▸ kp_alloc (kp_new _ _) _
  have HQ := Lib.hid (texts6_ok A A' m m' d d' ts ts w2 (hx.next k2) (hy.next k2) hm hm' true (Lib.hid (by simp)))
  have HW := Lib.hid hw2
  have HK := Lib.hid k2
  clear hx hy hw2 k2
  go_enter Tryz.func14, Tryz.ntmps14
  go_wp2_with fail
  rw [HW.out]
  refine HQ.out.mono ?_
  rintro e3 w3 ⟨rfl, q, rfl⟩
  have HB := Lib.hid (HK.out.trans ((kp_drewN w2 q).mono HK.out.size))
  generalize w2.drewN q = w4 at *
  clear HQ
  go_wp2_with fail
  go_ret
  exact ⟨rfl, HB.out⟩
end

/- The document's layer 15: Copy: contracts (of two nodes; of one from itself). -/
section
open Go.RowKit
set_option maxRecDepth 100000

section
variable {b f : Nat} {n fn : Nd} {S T : Nat → Prop} {w : World}
end
end

/- Layer 15: the law's own: contract. -/
section
open Go.RowKit
set_option maxRecDepth 100000

/-- three pointers that are read -/
structure P3 (w : World) (A : Option Addr) (bs : Nat → Nat) : Prop where
  rd : Rd w w.heap.size A [.pointer (some ⟨bs 0, 0, none⟩), .pointer (some ⟨bs 1, 0, none⟩), .pointer (some ⟨bs 2, 0, none⟩)]
theorem P3.next {w w' : World} {A : Option Addr} {bs : Nat → Nat} (h : P3 w A bs) (hb : Below w.heap.size w w') : P3 w' A bs := ⟨(h.rd.below hb (Nat.le_refl _)).more hb.size⟩
theorem P3.at_ {w : World} {A : Option Addr} {bs : Nat → Nat} (h : P3 w A bs) {i : Nat} (hi : i < 3) : ∃ ad, A = some ad ∧ ad.block < w.heap.size ∧ w.cell? (ad.add i) = some (.pointer (some ⟨bs i, 0, none⟩)) := by
  obtain ⟨ad, hA, hb, hc⟩ := h.rd.addr (by simp)
  refine ⟨ad, hA, hb, hc i _ ?_⟩
  match i, hi with
  | 0, _ => rfl
  | 1, _ => rfl
  | 2, _ => rfl
/-- ahead of one operation what is left is new; behind it G holds, and behind another F -/
def SL7 (a b : Nat) (W : World) (G F : World → Prop) (L : Nat → Bool) (u : World) : Prop := bif L b then F u else bif L a then G u else Below W.heap.size W u
section
variable {a b : Nat} {W u : World} {G F : World → Prop} {L : Nat → Bool}
theorem SL7.ahead (h : SL7 a b W G F L u) (h0 : L a = false) (h1 : L b = false) : Below W.heap.size W u := by
  unfold SL7 at h
  rw [h0, h1] at h
  exact h
theorem SL7.of (h0 : L a = false) (h1 : L b = false) (h : Below W.heap.size W u) : SL7 a b W G F L u := by
  unfold SL7
  rw [h0, h1]
  exact h
theorem SL7.mid (h : SL7 a b W G F L u) (h0 : L a = true) (h1 : L b = false) : G u := by
  unfold SL7 at h
  rw [h0, h1] at h
  exact h
theorem SL7.now (h0 : L a = true) (h1 : L b = false) (h : G u) : SL7 a b W G F L u := by
  unfold SL7
  rw [h0, h1]
  exact h
theorem SL7.done (h : SL7 a b W G F L u) (h1 : L b = true) : F u := by
  unfold SL7 at h
  rw [h1] at h
  exact h
theorem SL7.last (h1 : L b = true) (h : F u) : SL7 a b W G F L u := by
  unfold SL7
  rw [h1]
  exact h
end
theorem Turn.ahead {Y : Thing} {S : Nat → Prop} {w u w' : World} (ht : Turn Y S u w') (hb : Below w.heap.size w u) : Turn Y S w w' := by
  obtain ⟨⟨S', h1, h2⟩, h3⟩ := ht
  exact ⟨⟨S', h1, fun k hk => (h2 k hk).imp id fun e => Nat.le_trans hb.size e⟩, (Off.of S hb).trans h3 fun i hi => .inl hi⟩
/-- what is written behind a call, into blocks that were new then -/
theorem Turn.behind {Y : Thing} {S : Nat → Prop} {w w3 w5 w6 : World} {xb : Nat} (hxb : w.heap.size = xb) (hz : w3.heap.size = xb + 3) (hb : Below w.heap.size w w3) (hs : ∀ k, S k → k < w.heap.size) (ht : Turn Y S w3 w5) (ho : Off (fun k => xb ≤ k ∧ k < xb + 3) w5 w6) : Turn Y S w w6 := by
  obtain ⟨⟨S', h1, h2⟩, h3⟩ := ht
  refine ⟨⟨S', Thing.off h1 ho fun k hk e => ?_, fun k hk => ?_⟩, ((Off.of S hb).trans h3 fun i hi => .inl hi).trans ho fun i hi => .inr (by omega)⟩
  · rcases h2 k hk with h | h
    · have := hs k h; omega
    · omega
  · rcases h2 k hk with h | h
    · exact .inl h
    · exact .inr (by omega)
theorem lof3_ok (n : Int) (w : World) : Calls Tryz.prog 15 #[.int .i64 n] w fun e w' => e = .returned (.int .i64 (of3 n : Nat)) ∧ w = w' := by
  rw [of3_val]
  exact lof_ok n w
def toO (r : Rp) (A : Option Addr) (m d : Nat) (is : Bool) (many : Int) : Obj := .cells #[.int .i64 r.e, .int .u64 r.ep, .int .u64 r.pl, .slice A m d, .bool is, .int .i64 many] 38 (0, 0)
def toV (t : To15) (A : Option Addr) (m d : Nat) : Value := .agg #[.int .i64 t.r.e, .int .u64 t.r.ep, .int .u64 t.r.pl, .slice A m d, .bool t.is, .int .i64 t.many]
/-- texts lie in no block that holds none -/
theorem XR.past {w w' : World} {xb : Nat} {A : Option Addr} {m : Nat} {ss : List ByteArray} (h : XR w A m ss) (h1 : w.heap[xb + 1]? = some (toO noRp none 0 0 false 0)) (h2 : w.heap[xb + 1 + 1]? = some (toO noRp none 0 0 false 0)) (ho : Off (fun k => k = xb + 1 ∨ k = xb + 1 + 1) w w') : XR w' A m ss := by
  rcases ss with _ | ⟨s, ss⟩
  · exact ⟨h.len, .inl rfl⟩
  · refine h.offO ho fun ad hA e => ?_
    obtain ⟨ad', hA', _, hc⟩ := h.at_ (j := 0) (by simp)
    rw [hA] at hA'
    obtain rfl : ad = ad' := Option.some.inj hA'
    have hh : w.heap[(ad.add 0).block]? = some (toO noRp none 0 0 false 0) := by
      rw [add_block]
      rcases e with e | e
      · rw [e]; exact h1
      · rw [e]; exact h2
    have : ∃ o : Nat, (#[.int .i64 0, .int .u64 0, .int .u64 0, .slice none 0 0, .bool false, .int .i64 0] : Array Value)[o]? = some (Value.string (s :: ss)[0]) := by
      refine ⟨(ad.add 0).off, ?_⟩
      unfold World.cell? at hc
      rw [hh] at hc
      unfold toO noRp at hc
      dsimp only at hc
      split at hc
      · cases hc
      · exact hc
    obtain ⟨o, ho⟩ := this
    match o with
    | 0 => cases ho
    | 1 => cases ho
    | 2 => cases ho
    | 3 => cases ho
    | 4 => cases ho
    | 5 => cases ho
    | (n + 6) => simp at ho
section
variable {bs : Nat → Nat} {ns : Nat → Nd} {S : Nat → Prop} {w : World} {k : Nat}
end
end

/- Three things, one of which is asked for a row; a row that is told, and what is done behind it (no function of the program is named here). -/
section
open Go.RowKit
set_option maxRecDepth 100000

section
variable {α : Type} {P : Program} {w0 w w' : World} {X X' : Thing} {Y : Nat → α → Thing} {bs : Nat → Nat} {ns : Nat → α} {N S : Nat → Prop}
theorem upd3_self (ns : Nat → α) (i : Nat) : upd3 ns i (ns i) = ns := funext fun j => by
  unfold upd3
  split
  · rename_i h; rw [h]
  · rfl
/-- a call on one of three that tells a row -/
theorem Tri.told {f : FuncId} {args : Array Value} {Q : Ending → World → Option Addr → Nat → Nat → Prop} {i : Nat} (h : (Tri Y bs ns).p S w) (hi : i < 3) {x : α} (hop : ∀ S', (Y (bs i) (ns i)).p S' w → Calls P f args w fun e w' => ∃ A m d, Q e w' A m d ∧ Told1 (Y (bs i) x) S' A w w') :
    Calls P f args w fun e w' => ∃ A m d, Q e w' A m d ∧ Told1 (Tri Y bs (upd3 ns i x)) S A w w' := by
  obtain ⟨Ss, h1, h2, h3⟩ := h
  refine (hop (Ss i) (h1 i hi)).mono fun e w' ⟨A, m, d, hq, ⟨S', k1, k2, k4⟩, ko⟩ => ⟨A, m, d, hq, ?_⟩
  have hlt : ∀ j, j < 3 → ∀ k, Ss j k → k < w.heap.size := fun j hj k hk => (Y (bs j) (ns j)).lt (h1 j hj) k hk
  refine ⟨⟨fun k => ∃ j, j < 3 ∧ (upd3 Ss i S') j k, ⟨upd3 Ss i S', fun j hj => ?_, fun a c ha hc hac k e1 e2 => ?_, fun _ => Iff.rfl⟩, fun k hk => ?_, fun ad hA => ⟨(k4 ad hA).1, (k4 ad hA).2.1, ?_⟩⟩, ko.wide fun k hk => (h3 k).2 ⟨i, hi, hk⟩⟩
  · by_cases hji : j = i
    · subst hji
      rw [upd3_at, upd3_at]
      exact k1
    · rw [upd3_ne ns x hji, upd3_ne Ss S' hji]
      exact Thing.off (h1 j hj) ko fun k e1 e2 => h2 j i hj hi hji k e1 e2
  · by_cases hai : a = i
    · subst hai
      rw [upd3_at] at e1
      rw [upd3_ne Ss S' (fun e => hac e.symm)] at e2
      rcases k2 k e1 with e | e
      · exact h2 a c ha hc hac k e e2
      · have := hlt c hc k e2; omega
    · rw [upd3_ne Ss S' hai] at e1
      by_cases hci : c = i
      · subst hci
        rw [upd3_at] at e2
        rcases k2 k e2 with e | e
        · exact h2 a c ha hc hac k e1 e
        · have := hlt a ha k e1; omega
      · rw [upd3_ne Ss S' hci] at e2
        exact h2 a c ha hc hac k e1 e2
  · obtain ⟨j, hj, e⟩ := hk
    by_cases hji : j = i
    · subst hji
      rw [upd3_at] at e
      exact (k2 k e).imp (fun e => (h3 k).2 ⟨j, hj, e⟩) id
    · rw [upd3_ne Ss S' hji] at e
      exact .inl ((h3 k).2 ⟨j, hj, e⟩)
  · rintro ⟨j, hj, e⟩
    by_cases hji : j = i
    · subst hji
      rw [upd3_at] at e
      exact (k4 ad hA).2.2 e
    · rw [upd3_ne Ss S' hji] at e
      have := hlt j hj _ e
      have := (k4 ad hA).1
      omega
end
theorem Turn.none {Y : Thing} {S : Nat → Prop} {w w' : World} (h : Turn Y S w w') : Told1 Y S none w w' := by
  obtain ⟨⟨S', h1, h2⟩, h3⟩ := h
  exact ⟨⟨S', h1, h2, fun ad h => by cases h⟩, h3⟩
theorem Told1.below {Y : Thing} {S : Nat → Prop} {A : Option Addr} {w w' w'' : World} (h : Told1 Y S A w w') (hb : Below w'.heap.size w' w'') : Told1 Y S A w w'' := by
  obtain ⟨⟨S', h1, h2, h4⟩, h3⟩ := h
  exact ⟨⟨S', Thing.next h1 hb, h2, fun ad hA => ⟨(h4 ad hA).1, Nat.lt_of_lt_of_le (h4 ad hA).2.1 hb.size, (h4 ad hA).2.2⟩⟩, h3.trans (Off.of (fun _ => False) hb) fun _ h => h.elim⟩
theorem Told1.behind {Y : Thing} {S : Nat → Prop} {A : Option Addr} {w w3 w5 w6 : World} {xb : Nat} (hxb : w.heap.size = xb) (hz : w3.heap.size = xb + 3) (hb : Below w.heap.size w w3) (hs : ∀ k, S k → k < w.heap.size) (ht : Told1 Y S A w3 w5) (ho : Off (fun k => xb ≤ k ∧ k < xb + 3) w5 w6) : Told1 Y S A w w6 := by
  obtain ⟨⟨S', h1, h2, h4⟩, h3⟩ := ht
  refine ⟨⟨S', Thing.off h1 ho fun k hk e => ?_, fun k hk => ?_, fun ad hA => ⟨by have := (h4 ad hA).1; omega, Nat.lt_of_lt_of_le (h4 ad hA).2.1 ho.size, (h4 ad hA).2.2⟩⟩, ((Off.of S hb).trans h3 fun i hi => .inl hi).trans ho fun i hi => .inr (by omega)⟩
  · rcases h2 k hk with h | h
    · have := hs k h; omega
    · omega
  · rcases h2 k hk with h | h
    · exact .inl h
    · exact .inr (by omega)
end

/- Layer 15: the law's do, over NodeC: contract. -/
section
open Go.RowKit
set_option maxRecDepth 100000

section
variable {X : Nat → Nd → Thing} {bs : Nat → Nat} {ns : Nat → Nd} {S : Nat → Prop} {w : World} {k : Nat}
set_option maxHeartbeats 16000000 in
theorem ldo_ok (C : NodeC X) (hL : Lw w) (A : Option Addr) (c0 : Nat) (x : Ac8) (h : (Tri X bs ns).p S w) (hp : P3 w A bs) (hI : ∀ i, NdI k (ns i)) (hk : k ≤ 800) (hx : x.Fine) (ht : Sm x.t) :
    Calls Tryz.prog 12 #[.slice A 3 c0, .agg #[.int .i64 x.d, .int .i64 x.nd, .int .i64 x.fr, .int .i64 x.c, .int .i64 x.m, .int .u64 x.e, .bool x.rd, .string x.t]] w fun e w' => ∃ (A' : Option Addr) (m' d' : Nat), e = .returned (toV (actN ns x).1 A' m' d') ∧ XR w' A' m' (actN ns x).1.r.ts ∧ Told1 (Tri X bs (actN ns x).2) S A' w w' := by
  obtain ⟨i, hi⟩ : ∃ i, of3 x.nd = i := ⟨_, rfl⟩
  have hi3 : i < 3 := hi ▸ of3_lt x.nd
  have HOF := Lib.hid (fun w => lof3_ok x.nd w)
  rw [hi] at HOF
  obtain ⟨w3, hw3⟩ : ∃ u, ((w.alloc (acO x)).alloc (toO noRp none 0 0 false 0)).alloc (toO noRp none 0 0 false 0) = u := ⟨_, rfl⟩
  have k3 : Below w.heap.size w w3 := hw3 ▸ kp_alloc (kp_alloc (kp_new _ _) _) _
  obtain ⟨xb, hxb⟩ : ∃ b, w.heap.size = b := ⟨_, rfl⟩
  have hz3 : w3.heap.size = xb + 3 := by rw [← hw3, ← hxb]; simp
  have bx : w3.heap[xb]? = some (acO x) := by
    rw [← hxb, ← hw3, heap_alloc_old _ _ (by simp; omega), heap_alloc_old _ _ (by simp)]
    exact heap_alloc_new w _
  have b4 : w3.heap[xb + 1]? = some (toO noRp none 0 0 false 0) := by
    rw [← hxb, ← hw3, heap_alloc_old _ _ (by simp)]
    have := heap_alloc_new (w.alloc (acO x)) (toO noRp none 0 0 false 0)
    rwa [World.size_alloc] at this
  have b5 : w3.heap[xb + 1 + 1]? = some (toO noRp none 0 0 false 0) := by
    rw [← hxb, ← hw3]
    have := heap_alloc_new ((w.alloc (acO x)).alloc (toO noRp none 0 0 false 0)) (toO noRp none 0 0 false 0)
    rwa [World.size_alloc, World.size_alloc] at this
  obtain ⟨ad, rfl, hadl, z0⟩ := (hp.next k3).at_ hi3
  obtain ⟨x0, _⟩ := cellsAt bx 0 (v := .int .i64 x.d) rfl
  obtain ⟨x1, _⟩ := cellsAt bx 1 (v := .int .i64 x.nd) rfl
  obtain ⟨x2, _⟩ := cellsAt bx 2 (v := .int .i64 x.fr) rfl
  obtain ⟨x3, _⟩ := cellsAt bx 3 (v := .int .i64 x.c) rfl
  obtain ⟨x4, _⟩ := cellsAt bx 4 (v := .int .i64 x.m) rfl
  obtain ⟨x5, _⟩ := cellsAt bx 5 (v := .int .u64 x.e) rfl
  obtain ⟨x6, _⟩ := cellsAt bx 6 (v := .bool x.rd) rfl
  obtain ⟨x7, _⟩ := cellsAt bx 7 (v := .string x.t) rfl
  have hi0 : (0 : Int) ≤ (i : Int) := by omega
  have hi1 : (i : Int) < 3 := by omega
  have HT := Lib.hid h
  have HT3 := Lib.hid (Thing.next h k3)
  have HK3 := Lib.hid k3
  have HW3 := Lib.hid hw3
  have HXB := Lib.hid hxb
  have HB4 := Lib.hid b4
  have HB5 := Lib.hid b5
  have HZ3 := Lib.hid hz3
  have HS := Lib.hid (fun k (hk : S k) => (Tri X bs ns).lt h k hk)
  unfold acO toO noRp at HW3
  dsimp only at HW3
  clear h k3 hw3 hxb b4 b5 hz3 bx
  by_cases h1 : x.d = 1
  · have ha : actN ns x = (⟨noRp, decide (0 ≤ idxOp x.c (ns i).op), 0⟩, upd3 ns i (closeNd (ns i) x.c)) := by
      unfold actN
      rw [if_neg (by omega), if_pos h1, hi]
    rw [ha]
    have HQ := Lib.hid (Tri.op HT3.out hi3 (x := closeNd (ns i) x.c) fun S' hS' => C.close _ _ _ x.c S' _ hS' (hI i) hk hx.c)
    rw [h1] at x0 HW3
    clear ha hi
    go_enter Tryz.func12, Tryz.ntmps12
    rw [h1]
    go_wp2_with fail
    rw [HW3.out, HXB.out]
    refine (HOF.out _).mono ?_
    rintro e w4 ⟨rfl, rfl⟩
    go_wp2_with fail
    refine HQ.out.mono ?_
    rintro e w5 ⟨rfl, ht⟩
    have c5 : w5.heap[xb + 1 + 1]? = some (toO noRp none 0 0 false 0) := (ht.off.block _ (by have := HZ3.out; omega) (fun e => by have := HS.out _ e; have := HXB.out; omega)).trans HB5.out
    have c4 : w5.heap[xb + 1]? = some (toO noRp none 0 0 false 0) := (ht.off.block _ (by have := HZ3.out; omega) (fun e => by have := HS.out _ e; have := HXB.out; omega)).trans HB4.out
    have HTT := Lib.hid ht
    have HZ5 := Lib.hid ht.off.size
    have HC4 := Lib.hid c4
    have HC5 := Lib.hid c5
    clear ht
    obtain ⟨u0, p0⟩ := cellsAt c5 0 (v := .int .i64 0) rfl
    obtain ⟨u1, p1⟩ := cellsAt c5 1 (v := .int .u64 0) rfl
    obtain ⟨u2, p2⟩ := cellsAt c5 2 (v := .int .u64 0) rfl
    obtain ⟨u3, p3⟩ := cellsAt c5 3 (v := .slice none 0 0) rfl
    obtain ⟨u4, p4⟩ := cellsAt c5 4 (v := .bool false) rfl
    obtain ⟨u5, p5⟩ := cellsAt c5 5 (v := .int .i64 0) rfl
    obtain ⟨s0, q0⟩ := cellsAt c4 0 (v := .int .i64 0) rfl
    obtain ⟨s1, q1⟩ := cellsAt c4 1 (v := .int .u64 0) rfl
    obtain ⟨s2, q2⟩ := cellsAt c4 2 (v := .int .u64 0) rfl
    obtain ⟨s3, q3⟩ := cellsAt c4 3 (v := .slice none 0 0) rfl
    obtain ⟨s4, q4⟩ := cellsAt c4 4 (v := .bool false) rfl
    obtain ⟨s5, q5⟩ := cellsAt c4 5 (v := .int .i64 0) rfl
    clear c5 c4
    go_wp2_with fail
    refine bodyPost_ret (v := toV ⟨noRp, decide (0 ≤ idxOp x.c (ns i).op), 0⟩ none 0 0) ?_ rfl ⟨none, 0, 0, rfl, XR.nil _, (Turn.behind HXB.out HZ3.out HK3.out HS.out HTT.out (Off.wide (S := fun k => k = xb + 1 ∨ k = xb + 1 + 1) (Off.setCell (Off.setCell (Off.setCell (Off.setCell (Off.setCell (Off.setCell (Off.setCell (Off.refl _ _) (.inl (.inr rfl)) _) (.inl (.inl rfl)) _) (.inl (.inl rfl)) _) (.inl (.inl rfl)) _) (.inl (.inl rfl)) _) (.inl (.inl rfl)) _) (.inl (.inl rfl)) _) fun k hk => by omega)).none⟩
    rw [results_cell1 rfl]
    unfold toV noRp
    go_simp
  by_cases h2 : x.d = 2
  · have ha : actN ns x = (⟨noRp, decide ((ns i).ep ≤ x.e), 0⟩, upd3 ns i (leadNd (ns i) x.e)) := by
      unfold actN
      rw [if_neg (by omega), if_neg h1, if_pos h2, hi]
    rw [ha]
    have HQ := Lib.hid (Tri.op HT3.out hi3 (x := leadNd (ns i) x.e) fun S' hS' => C.lead _ _ _ x.e S' _ hS' (hI i) hx.e)
    rw [h2] at x0 HW3
    clear ha hi
    go_enter Tryz.func12, Tryz.ntmps12
    rw [h2]
    go_wp2_with fail
    rw [HW3.out, HXB.out]
    refine (HOF.out _).mono ?_
    rintro e w4 ⟨rfl, rfl⟩
    go_wp2_with fail
    refine HQ.out.mono ?_
    rintro e w5 ⟨rfl, ht⟩
    have c5 : w5.heap[xb + 1 + 1]? = some (toO noRp none 0 0 false 0) := (ht.off.block _ (by have := HZ3.out; omega) (fun e => by have := HS.out _ e; have := HXB.out; omega)).trans HB5.out
    have c4 : w5.heap[xb + 1]? = some (toO noRp none 0 0 false 0) := (ht.off.block _ (by have := HZ3.out; omega) (fun e => by have := HS.out _ e; have := HXB.out; omega)).trans HB4.out
    have HTT := Lib.hid ht
    have HZ5 := Lib.hid ht.off.size
    have HC4 := Lib.hid c4
    have HC5 := Lib.hid c5
    clear ht
    obtain ⟨u0, p0⟩ := cellsAt c5 0 (v := .int .i64 0) rfl
    obtain ⟨u1, p1⟩ := cellsAt c5 1 (v := .int .u64 0) rfl
    obtain ⟨u2, p2⟩ := cellsAt c5 2 (v := .int .u64 0) rfl
    obtain ⟨u3, p3⟩ := cellsAt c5 3 (v := .slice none 0 0) rfl
    obtain ⟨u4, p4⟩ := cellsAt c5 4 (v := .bool false) rfl
    obtain ⟨u5, p5⟩ := cellsAt c5 5 (v := .int .i64 0) rfl
    obtain ⟨s0, q0⟩ := cellsAt c4 0 (v := .int .i64 0) rfl
    obtain ⟨s1, q1⟩ := cellsAt c4 1 (v := .int .u64 0) rfl
    obtain ⟨s2, q2⟩ := cellsAt c4 2 (v := .int .u64 0) rfl
    obtain ⟨s3, q3⟩ := cellsAt c4 3 (v := .slice none 0 0) rfl
    obtain ⟨s4, q4⟩ := cellsAt c4 4 (v := .bool false) rfl
    obtain ⟨s5, q5⟩ := cellsAt c4 5 (v := .int .i64 0) rfl
    clear c5 c4
    go_wp2_with fail
    refine bodyPost_ret (v := toV ⟨noRp, decide ((ns i).ep ≤ x.e), 0⟩ none 0 0) ?_ rfl ⟨none, 0, 0, rfl, XR.nil _, (Turn.behind HXB.out HZ3.out HK3.out HS.out HTT.out (Off.wide (S := fun k => k = xb + 1 ∨ k = xb + 1 + 1) (Off.setCell (Off.setCell (Off.setCell (Off.setCell (Off.setCell (Off.setCell (Off.setCell (Off.refl _ _) (.inl (.inr rfl)) _) (.inl (.inl rfl)) _) (.inl (.inl rfl)) _) (.inl (.inl rfl)) _) (.inl (.inl rfl)) _) (.inl (.inl rfl)) _) (.inl (.inl rfl)) _) fun k hk => by omega)).none⟩
    rw [results_cell1 rfl]
    unfold toV noRp
    go_simp
  by_cases h0 : x.d = 0
  · have ha : actN ns x = (⟨(runNd (ns i) x.c x.e x.rd x.t).1, false, 0⟩, upd3 ns i (runNd (ns i) x.c x.e x.rd x.t).2) := by
      unfold actN
      rw [if_pos h0, hi]
    rw [ha]
    have HQ := Lib.hid (Tri.told HT3.out hi3 (x := (runNd (ns i) x.c x.e x.rd x.t).2) (Q := fun e u A m d => e = .returned (rpV (runNd (ns i) x.c x.e x.rd x.t).1 A m d) ∧ XR u A m (runNd (ns i) x.c x.e x.rd x.t).1.ts) fun S' hS' => (C.run _ _ _ x.c x.e x.rd x.t S' _ (hL.next HK3.out) hS' (hI i) hk ht hx.c hx.e).mono fun _ _ ⟨A, m, d, he, hr, hl⟩ => ⟨A, m, d, ⟨he, hr⟩, hl⟩)
    generalize hR : runNd (ns i) x.c x.e x.rd x.t = R at HQ ⊢
    rw [h0] at x0 HW3
    clear ha hi
    go_enter Tryz.func12, Tryz.ntmps12
    rw [h0]
    go_wp2_with fail
    rw [HW3.out, HXB.out]
    refine (HOF.out _).mono ?_
    rintro e w4 ⟨rfl, rfl⟩
    go_wp2_with fail
    refine HQ.out.mono ?_
    rintro e w4 ⟨A, m, d, ⟨rfl, hr⟩, ht4⟩
    go_wp2_with fail
    refine (lreply_ok R.1 A m d _).mono ?_
    rintro e w5 ⟨rfl, hb5⟩
    have ht := ht4.below hb5
    have HR := Lib.hid (hr.next hb5)
    clear hr hR ht4 hb5
    unfold rpV
    have c5 : w5.heap[xb + 1 + 1]? = some (toO noRp none 0 0 false 0) := (ht.off.block _ (by have := HZ3.out; omega) (fun e => by have := HS.out _ e; have := HXB.out; omega)).trans HB5.out
    have c4 : w5.heap[xb + 1]? = some (toO noRp none 0 0 false 0) := (ht.off.block _ (by have := HZ3.out; omega) (fun e => by have := HS.out _ e; have := HXB.out; omega)).trans HB4.out
    have HTT := Lib.hid ht
    have HZ5 := Lib.hid ht.off.size
    have HC4 := Lib.hid c4
    have HC5 := Lib.hid c5
    clear ht
    obtain ⟨u0, p0⟩ := cellsAt c5 0 (v := .int .i64 0) rfl
    obtain ⟨u1, p1⟩ := cellsAt c5 1 (v := .int .u64 0) rfl
    obtain ⟨u2, p2⟩ := cellsAt c5 2 (v := .int .u64 0) rfl
    obtain ⟨u3, p3⟩ := cellsAt c5 3 (v := .slice none 0 0) rfl
    obtain ⟨u4, p4⟩ := cellsAt c5 4 (v := .bool false) rfl
    obtain ⟨u5, p5⟩ := cellsAt c5 5 (v := .int .i64 0) rfl
    obtain ⟨s0, q0⟩ := cellsAt c4 0 (v := .int .i64 0) rfl
    obtain ⟨s1, q1⟩ := cellsAt c4 1 (v := .int .u64 0) rfl
    obtain ⟨s2, q2⟩ := cellsAt c4 2 (v := .int .u64 0) rfl
    obtain ⟨s3, q3⟩ := cellsAt c4 3 (v := .slice none 0 0) rfl
    obtain ⟨s4, q4⟩ := cellsAt c4 4 (v := .bool false) rfl
    obtain ⟨s5, q5⟩ := cellsAt c4 5 (v := .int .i64 0) rfl
    clear c5 c4
    go_wp2_with fail
    refine bodyPost_ret (v := toV ⟨R.1, false, 0⟩ A m d) ?_ rfl ⟨A, m, d, rfl, XR.past HR.out HC4.out HC5.out (Off.setCell (Off.setCell (Off.setCell (Off.setCell (Off.setCell (Off.setCell (Off.setCell (Off.setCell (Off.setCell (Off.setCell (Off.refl _ _) (.inl (.inr rfl)) _) (.inl (.inr rfl)) _) (.inl (.inr rfl)) _) (.inl (.inr rfl)) _) (.inl (.inl rfl)) _) (.inl (.inl rfl)) _) (.inl (.inl rfl)) _) (.inl (.inl rfl)) _) (.inl (.inl rfl)) _) (.inl (.inl rfl)) _), Told1.behind HXB.out HZ3.out HK3.out HS.out HTT.out (Off.wide (S := fun k => k = xb + 1 ∨ k = xb + 1 + 1) (Off.setCell (Off.setCell (Off.setCell (Off.setCell (Off.setCell (Off.setCell (Off.setCell (Off.setCell (Off.setCell (Off.setCell (Off.refl _ _) (.inl (.inr rfl)) _) (.inl (.inr rfl)) _) (.inl (.inr rfl)) _) (.inl (.inr rfl)) _) (.inl (.inl rfl)) _) (.inl (.inl rfl)) _) (.inl (.inl rfl)) _) (.inl (.inl rfl)) _) (.inl (.inl rfl)) _) (.inl (.inl rfl)) _) fun k hk => by omega)⟩
    rw [results_cell1 rfl]
    unfold toV
    go_simp
  · have ha : actN ns x = (⟨noRp, false, (copyNd (ns i) (ns (of3 x.fr)) x.m).1⟩, upd3 ns i (copyNd (ns i) (ns (of3 x.fr)) x.m).2) := by
      unfold actN
      rw [if_neg h0, if_neg h1, if_neg h2, hi]
    rw [ha]
    obtain ⟨j, hj⟩ : ∃ j, of3 x.fr = j := ⟨_, rfl⟩
    have hj3 : j < 3 := hj ▸ of3_lt x.fr
    have HOF2 := Lib.hid (fun w => lof3_ok x.fr w)
    rw [hj] at HOF2 ⊢
    have hj0 : (0 : Int) ≤ (j : Int) := by omega
    have hj1 : (j : Int) < 3 := by omega
    have HCP : Hid (∀ u, Below w3.heap.size w3 u → Calls Tryz.prog 31 #[.pointer (some ⟨bs i, 0, none⟩), .pointer (some ⟨bs j, 0, none⟩), .int .i64 x.m] u fun e w' => e = .returned (.int .i64 (copyNd (ns i) (ns j) x.m).1) ∧ Turn (Tri X bs (upd3 ns i (copyNd (ns i) (ns j) x.m).2)) S u w') := Lib.hid fun u hu => by
      by_cases hij : i = j
      · subst hij
        exact Tri.op (Thing.next HT3.out hu) hi3 fun S' hS' => C.self _ _ _ x.m S' _ hS' (hI i) hx.m
      · exact Tri.op2 (Thing.next HT3.out hu) hi3 hj3 hij fun S' T' hS' hT' hd => C.copy _ _ _ _ _ _ x.m S' T' _ hS' hT' hd (hI i) (hI j) hx.m
    obtain ⟨ad', had', _, zj⟩ := (hp.next HK3.out).at_ hj3
    obtain rfl : ad = ad' := Option.some.inj had'
    obtain ⟨cp, hcp⟩ : ∃ c, copyNd (ns i) (ns j) x.m = c := ⟨_, rfl⟩
    rw [hcp] at HCP ⊢
    have g0 : (x.d == 0) = false := by simpa using h0
    have g1 : (x.d == 1) = false := by simpa using h1
    have g2 : (x.d == 2) = false := by simpa using h2
    obtain ⟨GN, hGN⟩ : ∃ G : World → Prop, ∀ z, G z ↔ Turn (Tri X bs (upd3 ns i cp.2)) S w3 z := ⟨_, fun _ => Iff.rfl⟩
    obtain ⟨FN, hFN⟩ : ∃ F : World → Prop, ∀ z, F z ↔ (∃ u0, Turn (Tri X bs (upd3 ns i cp.2)) S w3 u0 ∧ Off (fun k => k = xb + 1 ∨ k = xb + 1 + 1) u0 z ∧ z.heap[xb + 1]? = some (toO noRp none 0 0 false 0) ∧ z.heap[xb + 1 + 1]? = some (toO noRp none 0 0 false cp.1)) := ⟨_, fun _ => Iff.rfl⟩
    have HGN := Lib.hid hGN
    have HFN := Lib.hid hFN
    have HKR : Hid (∀ (i : Nat) (u : World), Kp2 9 11 i u u) := Lib.hid (Kp2.refl _ _)
    clear hGN hFN ha hi hj hcp h0 h1 h2 had' hI
    go_enter Tryz.func12, Tryz.ntmps12
    go_wp2_with fail
    rw [HW3.out, HXB.out]
    refine (HOF.out _).mono ?_
    rintro e w4 ⟨rfl, rfl⟩
    go_wp2_with fail
    refine wp_region_specs6 (S := SL7 9 11 w3 GN FN) (Kp := Kp2 9 11) (Sp := [(15, Stl.eq (.pointer (some ⟨bs i, 0, none⟩))), (16, Stl.eq (.slice (some ad) 3 c0)), (17, Stl.eq (.pointer (some ⟨xb, 2, none⟩))), (18, Stl.eq (.int .i64 x.fr)), (19, Stl.eq (.int .i64 (j : Nat))), (20, Stl.eq (.pointer (some (ad.add j)))), (21, Stl.eq (.pointer (some ⟨bs j, 0, none⟩))), (22, Stl.eq (.pointer (some ⟨xb, 4, none⟩))), (23, Stl.eq (.int .i64 x.m)), (24, Stl.eq (.int .i64 cp.1)), (25, Stl.eq (.pointer (some ⟨xb + 1 + 1, 5, none⟩)))]) (by kernel_rfl) (by kernel_rfl) (SL7.of rfl rfl (kp_drewN _ 1)) ?_ ?_
    · refine EachOp.cons ?_ ?_
      · intro L a u hL hst hS hdep hq hno
        have h6 : a.tmps.getD 6 undef = .pointer (some ⟨bs i, 0, none⟩) := hst.out 6 (by kernel_rfl)
        refine .inl ⟨trivial, ?_⟩
        have g6 := gd h6
        go_simp
        exact Went6.same (HKR.out _ _) hS rfl
      refine EachOp.cons ?_ ?_
      · intro L a u hL hst hS hdep hq hno
        have h0 : a.tmps.getD 0 undef = .slice (some ad) 3 c0 := hst.out 0 (by kernel_rfl)
        refine .inl ⟨trivial, ?_⟩
        have g0 := gd h0
        go_simp
        exact Went6.same (HKR.out _ _) hS rfl
      refine EachOp.cons ?_ ?_
      · intro L a u hL hst hS hdep hq hno
        have h3 : a.tmps.getD 3 undef = .pointer (some ⟨xb, 0, none⟩) := hst.out 3 (by kernel_rfl)
        refine .inl ⟨trivial, ?_⟩
        have g3 := gd h3
        go_simp
        exact Went6.same (HKR.out _ _) hS rfl
      refine EachOp.cons ?_ ?_
      · intro L a u hL hst hS hdep hq hno
        have h17 : a.tmps.getD 17 undef = .pointer (some ⟨xb, 2, none⟩) := hdep 17 (by kernel_rfl)
        refine .inl ⟨trivial, ?_⟩
        have g17 := gd h17
        have h9 : L 9 = false := hno 12 9 (by kernel_rfl)
        have h11 : L 11 = false := hno 12 11 (by kernel_rfl)
        have hB : Below w3.heap.size w3 u := SL7.ahead hS h9 h11
        have yy := (World.cell?_of_block (a := ⟨xb, 2, none⟩) (hB.block xb (by have := HZ3.out; omega))).trans x2
        go_simp
        exact Went6.same (HKR.out _ _) hS rfl
      refine EachOp.cons ?_ ?_
      · intro L a u hL hst hS hdep hq hno
        have h18 : a.tmps.getD 18 undef = .int .i64 x.fr := hdep 18 (by kernel_rfl)
        refine .inl ⟨trivial, ?_⟩
        have g18 := gd h18
        go_simp
        refine (HOF2.out u).mono ?_
        rintro e' u' ⟨rfl, rfl⟩
        exact Went6.next hS (HKR.out _ _) rfl
      refine EachOp.cons ?_ ?_
      · intro L a u hL hst hS hdep hq hno
        have h16 : a.tmps.getD 16 undef = .slice (some ad) 3 c0 := hdep 16 (by kernel_rfl)
        have h19 : a.tmps.getD 19 undef = .int .i64 (j : Nat) := hdep 19 (by kernel_rfl)
        refine .inl ⟨trivial, ?_⟩
        have g16 := gd h16
        have g19 := gd h19
        go_simp
        exact Went6.same (HKR.out _ _) hS rfl
      refine EachOp.cons ?_ ?_
      · intro L a u hL hst hS hdep hq hno
        have h20 : a.tmps.getD 20 undef = .pointer (some (ad.add j)) := hdep 20 (by kernel_rfl)
        refine .inl ⟨trivial, ?_⟩
        have g20 := gd h20
        have h9 : L 9 = false := hno 12 9 (by kernel_rfl)
        have h11 : L 11 = false := hno 12 11 (by kernel_rfl)
        have hB : Below w3.heap.size w3 u := SL7.ahead hS h9 h11
        have yy : u.cell? (ad.add j) = some (.pointer (some ⟨bs j, 0, none⟩)) := (World.cell?_of_block (by rw [add_block]; exact hB.block _ hadl)).trans zj
        go_simp
        exact Went6.same (HKR.out _ _) hS rfl
      refine EachOp.cons ?_ ?_
      · intro L a u hL hst hS hdep hq hno
        have h3 : a.tmps.getD 3 undef = .pointer (some ⟨xb, 0, none⟩) := hst.out 3 (by kernel_rfl)
        refine .inl ⟨trivial, ?_⟩
        have g3 := gd h3
        go_simp
        exact Went6.same (HKR.out _ _) hS rfl
      refine EachOp.cons ?_ ?_
      · intro L a u hL hst hS hdep hq hno
        have h22 : a.tmps.getD 22 undef = .pointer (some ⟨xb, 4, none⟩) := hdep 22 (by kernel_rfl)
        refine .inl ⟨trivial, ?_⟩
        have g22 := gd h22
        have h9 : L 9 = false := hno 12 9 (by kernel_rfl)
        have h11 : L 11 = false := hno 12 11 (by kernel_rfl)
        have hB : Below w3.heap.size w3 u := SL7.ahead hS h9 h11
        have yy := (World.cell?_of_block (a := ⟨xb, 4, none⟩) (hB.block xb (by have := HZ3.out; omega))).trans x4
        go_simp
        exact Went6.same (HKR.out _ _) hS rfl
      refine EachOp.cons ?_ ?_
      · intro L a u hL hst hS hdep hq hno
        have h15 : a.tmps.getD 15 undef = .pointer (some ⟨bs i, 0, none⟩) := hdep 15 (by kernel_rfl)
        have h21 : a.tmps.getD 21 undef = .pointer (some ⟨bs j, 0, none⟩) := hdep 21 (by kernel_rfl)
        have h23 : a.tmps.getD 23 undef = .int .i64 x.m := hdep 23 (by kernel_rfl)
        refine .inl ⟨trivial, ?_⟩
        have g15 := gd h15
        have g21 := gd h21
        have g23 := gd h23
        go_simp
        have h11 : L 11 = false := hno 12 11 (by kernel_rfl)
        have hB : Below w3.heap.size w3 u := SL7.ahead hS hL h11
        refine (HCP.out u hB).mono ?_
        rintro e' u' ⟨rfl, ht'⟩
        exact Went6.next (SL7.now done_same h11 ((HGN.out _).2 (ht'.ahead hB))) (fun h _ => absurd rfl h) rfl
      refine EachOp.cons ?_ ?_
      · intro L a u hL hst hS hdep hq hno
        have h5 : a.tmps.getD 5 undef = .pointer (some ⟨xb + 1 + 1, 0, none⟩) := hst.out 5 (by kernel_rfl)
        refine .inl ⟨trivial, ?_⟩
        have g5 := gd h5
        go_simp
        exact Went6.same (HKR.out _ _) hS rfl
      refine EachOp.cons ?_ ?_
      · intro L a u hL hst hS hdep hq hno
        have h24 : a.tmps.getD 24 undef = .int .i64 cp.1 := hdep 24 (by kernel_rfl)
        have h25 : a.tmps.getD 25 undef = .pointer (some ⟨xb + 1 + 1, 5, none⟩) := hdep 25 (by kernel_rfl)
        refine .inl ⟨trivial, ?_⟩
        have g24 := gd h24
        have g25 := gd h25
        have h9 : L 9 = true := hq 12 9 (by kernel_rfl)
        have hG := (HGN.out u).1 (SL7.mid hS h9 hL)
        have c5 : u.heap[xb + 1 + 1]? = some (toO noRp none 0 0 false 0) := (hG.off.block _ (by have := HZ3.out; omega) (fun e => by have := HS.out _ e; have := HXB.out; omega)).trans HB5.out
        have c4 : u.heap[xb + 1]? = some (toO noRp none 0 0 false 0) := (hG.off.block _ (by have := HZ3.out; omega) (fun e => by have := HS.out _ e; have := HXB.out; omega)).trans HB4.out
        obtain ⟨u5, p5⟩ := cellsAt c5 5 (v := .int .i64 0) rfl
        go_simp
        exact ⟨undef, rfl, SL7.last done_same ((HFN.out _).2 ⟨u, hG, Off.setCell (Off.refl _ _) (.inl (.inr rfl)) _, (set_other (by show xb + 1 ≠ xb + 1 + 1; omega)).trans c4, heap_setCell_same u (xb + 1 + 1) 5 _ _ _ c5⟩), fun _ h => absurd rfl h, fun t e => by cases e⟩
      exact EachOp.nil
    · intro L a u hLs hst hS hdep
      have h15 : a.tmps.getD 15 undef = .pointer (some ⟨bs i, 0, none⟩) := hdep 15 (by kernel_rfl)
      have h16 : a.tmps.getD 16 undef = .slice (some ad) 3 c0 := hdep 16 (by kernel_rfl)
      have h17 : a.tmps.getD 17 undef = .pointer (some ⟨xb, 2, none⟩) := hdep 17 (by kernel_rfl)
      have h18 : a.tmps.getD 18 undef = .int .i64 x.fr := hdep 18 (by kernel_rfl)
      have h19 : a.tmps.getD 19 undef = .int .i64 (j : Nat) := hdep 19 (by kernel_rfl)
      have h20 : a.tmps.getD 20 undef = .pointer (some (ad.add j)) := hdep 20 (by kernel_rfl)
      have h21 : a.tmps.getD 21 undef = .pointer (some ⟨bs j, 0, none⟩) := hdep 21 (by kernel_rfl)
      have h22 : a.tmps.getD 22 undef = .pointer (some ⟨xb, 4, none⟩) := hdep 22 (by kernel_rfl)
      have h23 : a.tmps.getD 23 undef = .int .i64 x.m := hdep 23 (by kernel_rfl)
      have h24 : a.tmps.getD 24 undef = .int .i64 cp.1 := hdep 24 (by kernel_rfl)
      have h25 : a.tmps.getD 25 undef = .pointer (some ⟨xb + 1 + 1, 5, none⟩) := hdep 25 (by kernel_rfl)
      have hfr := hst.frame [(15, .pointer (some ⟨bs i, 0, none⟩)), (16, .slice (some ad) 3 c0), (17, .pointer (some ⟨xb, 2, none⟩)), (18, .int .i64 x.fr), (19, .int .i64 (j : Nat)), (20, .pointer (some (ad.add j))), (21, .pointer (some ⟨bs j, 0, none⟩)), (22, .pointer (some ⟨xb, 4, none⟩)), (23, .int .i64 x.m), (24, .int .i64 cp.1), (25, .pointer (some ⟨xb + 1 + 1, 5, none⟩))] (by kernel_rfl) ⟨h15, h16, h17, h18, h19, h20, h21, h22, h23, h24, h25, trivial⟩
      clear hst hdep h15 h16 h17 h18 h19 h20 h21 h22 h23 h24 h25
      subst hfr
      simp only [List.foldl_cons, List.foldl_nil, List.setIfInBounds_toArray, List.set_cons_zero, List.set_cons_succ]
      obtain ⟨w5, hG, ho5, c4, c5⟩ := (HFN.out u).1 (SL7.done hS (hLs 11 (by kernel_rfl)))
      obtain ⟨u0, p0⟩ := cellsAt c5 0 (v := .int .i64 0) rfl
      obtain ⟨u1, p1⟩ := cellsAt c5 1 (v := .int .u64 0) rfl
      obtain ⟨u2, p2⟩ := cellsAt c5 2 (v := .int .u64 0) rfl
      obtain ⟨u3, p3⟩ := cellsAt c5 3 (v := .slice none 0 0) rfl
      obtain ⟨u4, p4⟩ := cellsAt c5 4 (v := .bool false) rfl
      obtain ⟨u5, p5⟩ := cellsAt c5 5 (v := .int .i64 cp.1) rfl
      obtain ⟨s0, q0⟩ := cellsAt c4 0 (v := .int .i64 0) rfl
      obtain ⟨s1, q1⟩ := cellsAt c4 1 (v := .int .u64 0) rfl
      obtain ⟨s2, q2⟩ := cellsAt c4 2 (v := .int .u64 0) rfl
      obtain ⟨s3, q3⟩ := cellsAt c4 3 (v := .slice none 0 0) rfl
      obtain ⟨s4, q4⟩ := cellsAt c4 4 (v := .bool false) rfl
      obtain ⟨s5, q5⟩ := cellsAt c4 5 (v := .int .i64 0) rfl
      have HTT := Lib.hid hG
      have HO5 := Lib.hid ho5
      clear hS hLs c4 c5 hG ho5
      go_wp2_with fail
      refine bodyPost_ret (v := toV ⟨noRp, false, cp.1⟩ none 0 0) ?_ rfl ⟨none, 0, 0, rfl, XR.nil _, (Turn.behind HXB.out HZ3.out HK3.out HS.out HTT.out (Off.wide (S := fun k => k = xb + 1 ∨ k = xb + 1 + 1) (Off.setCell (Off.setCell (Off.setCell (Off.setCell (Off.setCell (Off.setCell (HO5.out) (.inl (.inl rfl)) _) (.inl (.inl rfl)) _) (.inl (.inl rfl)) _) (.inl (.inl rfl)) _) (.inl (.inl rfl)) _) (.inl (.inl rfl)) _) fun k hk => by omega)).none⟩
      rw [results_cell1 rfl]
      unfold toV noRp
      go_simp
end
end

/- Layer 15: three new nodes: contracts (the law's nodes; three of the document's). -/
section
open Go.RowKit
set_option maxRecDepth 100000

/-- three places out of three -/
def pick3 {α : Type} (a b c : α) : Nat → α
  | 0 => a
  | 1 => b
  | _ => c
/-- three that were made one behind another, and what is made behind them -/
theorem Tri.new3 {α : Type} {Y : Nat → α → Thing} {x : α} {b0 b1 b2 : Nat} {w w1 w2 w3 w4 : World} {S0 S1 S2 : Nat → Prop} (p0 : (Y b0 x).p S0 w1) (s0 : ∀ k, S0 k → w.heap.size ≤ k) (k1 : Below w.heap.size w w1) (p1 : (Y b1 x).p S1 w2) (s1 : ∀ k, S1 k → w1.heap.size ≤ k) (k2 : Below w1.heap.size w1 w2)
    (p2 : (Y b2 x).p S2 w3) (s2 : ∀ k, S2 k → w2.heap.size ≤ k) (k3 : Below w2.heap.size w2 w3) (k4 : Below w3.heap.size w3 w4) : (∃ S, (Tri Y (pick3 b0 b1 b2) fun _ => x).p S w4 ∧ ∀ k, S k → w.heap.size ≤ k ∧ k < w3.heap.size) ∧ Below w.heap.size w w4 := by
  have z1 := k1.size
  have z2 := k2.size
  have z3 := k3.size
  have l0 := (Y b0 x).lt p0
  have l1 := (Y b1 x).lt p1
  have l2 := (Y b2 x).lt p2
  refine ⟨⟨_, Tri.make (Ss := pick3 S0 S1 S2) (fun i hi => ?_) (fun i j hi hj hij k e1 e2 => ?_), fun k hk => ?_⟩, ((k1.trans (k2.mono z1)).trans (k3.mono (by omega))).trans (k4.mono (by omega))⟩
  · match i, hi with
    | 0, _ => exact Thing.next (Thing.next (Thing.next p0 k2) k3) k4
    | 1, _ => exact Thing.next (Thing.next p1 k3) k4
    | 2, _ => exact Thing.next p2 k4
  · match i, hi, j, hj with
    | 0, _, 0, _ => exact hij rfl
    | 0, _, 1, _ => have := l0 k e1; have := s1 k e2; omega
    | 0, _, 2, _ => have := l0 k e1; have := s2 k e2; omega
    | 1, _, 0, _ => have := l0 k e2; have := s1 k e1; omega
    | 1, _, 1, _ => exact hij rfl
    | 1, _, 2, _ => have := l1 k e1; have := s2 k e2; omega
    | 2, _, 0, _ => have := l0 k e2; have := s2 k e1; omega
    | 2, _, 1, _ => have := l1 k e2; have := s2 k e1; omega
    | 2, _, 2, _ => exact hij rfl
  · obtain ⟨i, hi, e⟩ := hk
    match i, hi with
    | 0, _ => have := s0 k e; have := l0 k e; omega
    | 1, _ => have := s1 k e; have := l1 k e; omega
    | 2, _ => have := s2 k e; have := l2 k e; omega
theorem P3.new (w : World) (b0 b1 b2 : Nat) (t : TypeId) : P3 (w.alloc (.cells #[.pointer (some ⟨b0, 0, none⟩), .pointer (some ⟨b1, 0, none⟩), .pointer (some ⟨b2, 0, none⟩)] t)) (some ⟨w.heap.size, 0, none⟩) (pick3 b0 b1 b2) := by
  refine ⟨.inr ⟨_, rfl, by simp, fun j u hj => ?_⟩⟩
  have hh := heap_alloc_new w (.cells #[.pointer (some ⟨b0, 0, none⟩), .pointer (some ⟨b1, 0, none⟩), .pointer (some ⟨b2, 0, none⟩)] t)
  match j with
  | 0 => exact (cellsAt hh 0 rfl).1.trans hj
  | 1 => exact (cellsAt hh 1 rfl).1.trans hj
  | 2 => exact (cellsAt hh 2 rfl).1.trans hj
  | n + 3 => simp at hj
section
variable {X : Nat → Nd → Thing} {w : World}
set_option maxHeartbeats 4000000 in
theorem lnodes_ok (C : NodeC X) (hL : Lw w) :
    Calls Tryz.prog 10 #[] w fun e w' => ∃ (g : Nat) (bs : Nat → Nat), e = .returned (.slice (some ⟨g, 0, none⟩) 3 3) ∧ P3 w' (some ⟨g, 0, none⟩) bs ∧ (∃ S, (Tri X bs fun _ => newNd).p S w' ∧ ∀ k, S k → w.heap.size ≤ k ∧ k < g) ∧ Below w.heap.size w w' := by
  go_enter Tryz.func10, Tryz.ntmps10
  go_wp2_with fail
  refine (C.new w hL).mono ?_
  rintro e w1 ⟨b0, rfl, ⟨S0, p0, s0⟩, k1⟩
  go_wp2_with fail
  refine (C.new w1 (hL.next k1)).mono ?_
  rintro e w2 ⟨b1, rfl, ⟨S1, p1, s1⟩, k2⟩
  go_wp2_with fail
  refine (C.new w2 ((hL.next k1).next k2)).mono ?_
  rintro e w3 ⟨b2, rfl, ⟨S2, p2, s2⟩, k3⟩
  go_wp2_with fail
  go_ret
  obtain ⟨h1, h2⟩ := Tri.new3 p0 s0 k1 p1 s1 k2 p2 s2 k3 (kp_new w3 _)
  exact ⟨_, pick3 b0 b1 b2, rfl, P3.new w3 b0 b1 b2 _, h1, h2⟩
end
end

/- Layer 15: the texts that the law's own calls say, plain. -/
section
open Go.RowKit
set_option maxRecDepth 100000

theorem lex15_0 : lexF [120] = some [(1, [88])] := by
  rw [lexF_tok (k := 1) (t := [88]) (n := 1) (by simp) (by kernel_rfl) (by decide)]
  simp only [List.drop_succ_cons, List.drop_zero]
  rw [lexF_nil]
  rfl
theorem lex15_1 : lexF [105, 110, 115, 101, 114, 116, 32, 105, 110, 116, 111, 32, 107, 118, 32, 118, 97, 108, 117, 101, 115, 32, 40, 39, 97, 39, 44, 32, 39, 98, 39, 41] = some [(1, [73, 78, 83, 69, 82, 84]), (1, [73, 78, 84, 79]), (1, [75, 86]), (1, [86, 65, 76, 85, 69, 83]), (6, [40]), (3, [97]), (6, [44]), (3, [98]), (6, [41])] := by
  rw [lexF_tok (k := 1) (t := [73, 78, 83, 69, 82, 84]) (n := 6) (by simp) (by kernel_rfl) (by decide)]
  simp only [List.drop_succ_cons, List.drop_zero]
  rw [lexF_skip (n := 1) (by simp) (by kernel_rfl) (by decide)]
  simp only [List.drop_succ_cons, List.drop_zero]
  rw [lexF_tok (k := 1) (t := [73, 78, 84, 79]) (n := 4) (by simp) (by kernel_rfl) (by decide)]
  simp only [List.drop_succ_cons, List.drop_zero]
  rw [lexF_skip (n := 1) (by simp) (by kernel_rfl) (by decide)]
  simp only [List.drop_succ_cons, List.drop_zero]
  rw [lexF_tok (k := 1) (t := [75, 86]) (n := 2) (by simp) (by kernel_rfl) (by decide)]
  simp only [List.drop_succ_cons, List.drop_zero]
  rw [lexF_skip (n := 1) (by simp) (by kernel_rfl) (by decide)]
  simp only [List.drop_succ_cons, List.drop_zero]
  rw [lexF_tok (k := 1) (t := [86, 65, 76, 85, 69, 83]) (n := 6) (by simp) (by kernel_rfl) (by decide)]
  simp only [List.drop_succ_cons, List.drop_zero]
  rw [lexF_skip (n := 1) (by simp) (by kernel_rfl) (by decide)]
  simp only [List.drop_succ_cons, List.drop_zero]
  rw [lexF_tok (k := 6) (t := [40]) (n := 1) (by simp) (by kernel_rfl) (by decide)]
  simp only [List.drop_succ_cons, List.drop_zero]
  rw [lexF_tok (k := 3) (t := [97]) (n := 3) (by simp) (by kernel_rfl) (by decide)]
  simp only [List.drop_succ_cons, List.drop_zero]
  rw [lexF_tok (k := 6) (t := [44]) (n := 1) (by simp) (by kernel_rfl) (by decide)]
  simp only [List.drop_succ_cons, List.drop_zero]
  rw [lexF_skip (n := 1) (by simp) (by kernel_rfl) (by decide)]
  simp only [List.drop_succ_cons, List.drop_zero]
  rw [lexF_tok (k := 3) (t := [98]) (n := 3) (by simp) (by kernel_rfl) (by decide)]
  simp only [List.drop_succ_cons, List.drop_zero]
  rw [lexF_tok (k := 6) (t := [41]) (n := 1) (by simp) (by kernel_rfl) (by decide)]
  simp only [List.drop_succ_cons, List.drop_zero]
  rw [lexF_nil]
  rfl
theorem lex15_2 : lexF [115, 101, 108, 101, 99, 116, 32, 42, 32, 102, 114, 111, 109, 32, 107, 118] = some [(1, [83, 69, 76, 69, 67, 84]), (6, [42]), (1, [70, 82, 79, 77]), (1, [75, 86])] := by
  rw [lexF_tok (k := 1) (t := [83, 69, 76, 69, 67, 84]) (n := 6) (by simp) (by kernel_rfl) (by decide)]
  simp only [List.drop_succ_cons, List.drop_zero]
  rw [lexF_skip (n := 1) (by simp) (by kernel_rfl) (by decide)]
  simp only [List.drop_succ_cons, List.drop_zero]
  rw [lexF_tok (k := 6) (t := [42]) (n := 1) (by simp) (by kernel_rfl) (by decide)]
  simp only [List.drop_succ_cons, List.drop_zero]
  rw [lexF_skip (n := 1) (by simp) (by kernel_rfl) (by decide)]
  simp only [List.drop_succ_cons, List.drop_zero]
  rw [lexF_tok (k := 1) (t := [70, 82, 79, 77]) (n := 4) (by simp) (by kernel_rfl) (by decide)]
  simp only [List.drop_succ_cons, List.drop_zero]
  rw [lexF_skip (n := 1) (by simp) (by kernel_rfl) (by decide)]
  simp only [List.drop_succ_cons, List.drop_zero]
  rw [lexF_tok (k := 1) (t := [75, 86]) (n := 2) (by simp) (by kernel_rfl) (by decide)]
  simp only [List.drop_succ_cons, List.drop_zero]
  rw [lexF_nil]
  rfl
/-- an unknown word; one that writes; one that reads all -/
def tx15_0 : ByteArray := ⟨#[120]⟩
def tx15_1 : ByteArray := ⟨#[105, 110, 115, 101, 114, 116, 32, 105, 110, 116, 111, 32, 107, 118, 32, 118, 97, 108, 117, 101, 115, 32, 40, 39, 97, 39, 44, 32, 39, 98, 39, 41]⟩
def tx15_2 : ByteArray := ⟨#[115, 101, 108, 101, 99, 116, 32, 42, 32, 102, 114, 111, 109, 32, 107, 118]⟩
theorem cls15_0 : clsT tx15_0 = 7 := by
  unfold clsT tx15_0
  rw [classA_lex lex15_0 (by decide)]
  kernel_rfl
theorem cls15_1 : clsT tx15_1 = 2 := by
  unfold clsT tx15_1
  rw [classA_lex lex15_1 (by decide)]
  kernel_rfl
theorem cls15_2 : clsT tx15_2 = 1 := by
  unfold clsT tx15_2
  rw [classA_lex lex15_2 (by decide)]
  kernel_rfl
theorem plan15_1 : planA tx15_1.data.toList = (3, [97], [98]) := by
  unfold tx15_1
  rw [planA_lex lex15_1 (by decide)]
  kernel_rfl
theorem plan15_2 : planA tx15_2.data.toList = (2, [], []) := by
  unfold tx15_2
  rw [planA_lex lex15_2 (by decide)]
  kernel_rfl
theorem rd15_all : rdT tx15_2 (tabN [⟨1, tx15_1⟩] []) = [⟨#[97]⟩, ⟨#[98]⟩] := by
  unfold rdT tabN wrT
  simp only [List.map_cons, List.map_nil, List.foldl_cons, List.foldl_nil, plan15_1, plan15_2]
  kernel_rfl
/-- the node of the law's own calls: new, led, written to -/
def led15 : Nd := leadNd newNd 1
theorem run15_0 : runNd newNd 1 1 false tx15_0 = (⟨7, 1, 0, []⟩, newNd) := by
  unfold runNd whyNd
  rw [cls15_0]
  rfl
theorem run15_1 : runNd led15 1 1 false tx15_1 = (⟨0, 1, 1, []⟩, ⟨1, true, [⟨1, tx15_1⟩], []⟩) := by
  unfold runNd whyNd
  rw [cls15_1]
  rfl
theorem run15_2 : runNd ⟨1, true, [⟨1, tx15_1⟩], []⟩ 1 1 true tx15_2 = (⟨0, 1, 1, [⟨#[97]⟩, ⟨#[98]⟩]⟩, ⟨1, true, [⟨1, tx15_1⟩], []⟩) := by
  unfold runNd whyNd
  rw [cls15_2]
  simp only [waitsNd, opOf, Option.getD]
  rw [rd15_all]
  rfl
theorem run15_3 : runNd ⟨1, true, [⟨1, tx15_1⟩], []⟩ 1 2 true tx15_2 = (⟨8, 1, 1, []⟩, ⟨1, true, [⟨1, tx15_1⟩], []⟩) := by
  unfold runNd whyNd
  rw [cls15_2]
  rfl
theorem copy15_0 : copyNd newNd ⟨1, true, [⟨1, tx15_1⟩], []⟩ 5 = (1, ⟨1, false, [⟨1, tx15_1⟩], []⟩) := by
  rfl
end
end Go.Proofs.YtaoegiohnebnhaaGreatDoor
