/-
  Contracts and plain functions that the law stands on, part 15 of 24.
-/
import Derived.Test.YtaoegiohnebnhaaGreatDoorQD14
import Derived.Laws.StructEq
namespace Go.Proofs.YtaoegiohnebnhaaGreatDoor
/- Layer 15: what the laws ask of the project's node, as one statement (to be proved of the landed code), over a thing that is the node; the law's of, entries, reply. -/
section
open Go.RowKit
set_option maxRecDepth 100000

/-- what a call on a thing leaves that tells a row: it lies in a new block, none of the thing's -/
structure Told1 (Y : Thing) (S : Nat → Prop) (A : Option Addr) (w w' : World) : Prop where
  at_ : ∃ S', Y.p S' w' ∧ (∀ k, S' k → S k ∨ w.heap.size ≤ k) ∧ ∀ ad, A = some ad → w.heap.size ≤ ad.block ∧ ad.block < w'.heap.size ∧ ¬ S' ad.block
  off : Off S w w'
theorem Told1.turn {Y : Thing} {S : Nat → Prop} {A : Option Addr} {w w' : World} (h : Told1 Y S A w w') : Turn Y S w w' := by
  obtain ⟨⟨S', h1, h2, _⟩, h4⟩ := h
  exact ⟨⟨S', h1, h2⟩, h4⟩
def I64n (i : Int) : Prop := -9223372036854775808 ≤ i ∧ i ≤ 9223372036854775807
def U64n (n : Int) : Prop := 0 ≤ n ∧ n < 18446744073709551616
structure NodeC0 (X : Nat → Nd → Thing) : Prop where
  new : ∀ (w : World), Lw w → Calls Tryz.prog 26 #[] w fun e w' => ∃ b, e = .returned (.pointer (some ⟨b, 0, none⟩)) ∧ (∃ S, (X b newNd).p S w' ∧ ∀ k, S k → w.heap.size ≤ k) ∧ Below w.heap.size w w'
  lead : ∀ (b : Nat) (n : Nd) (k : Nat) (e : Int) (S : Nat → Prop) (w : World), (X b n).p S w → NdI k n → U64n e →
    Calls Tryz.prog 27 #[.pointer (some ⟨b, 0, none⟩), .int .u64 e] w fun e' w' => e' = .returned (.bool (decide (n.ep ≤ e))) ∧ Turn (X b (leadNd n e)) S w w'
  run : ∀ (b : Nat) (n : Nd) (k : Nat) (c e : Int) (rd : Bool) (s : ByteArray) (S : Nat → Prop) (w : World), Lw w → (X b n).p S w → NdI k n → k ≤ 800 → Sm s → I64n c → U64n e →
    Calls Tryz.prog 28 #[.pointer (some ⟨b, 0, none⟩), .int .i64 c, .int .u64 e, .bool rd, .string s] w fun e' w' => ∃ A m d, e' = .returned (rpV (runNd n c e rd s).1 A m d) ∧ XR w' A m (runNd n c e rd s).1.ts ∧ Told1 (X b (runNd n c e rd s).2) S A w w'
  close : ∀ (b : Nat) (n : Nd) (k : Nat) (c : Int) (S : Nat → Prop) (w : World), (X b n).p S w → NdI k n → k ≤ 800 → I64n c →
    Calls Tryz.prog 30 #[.pointer (some ⟨b, 0, none⟩), .int .i64 c] w fun e' w' => e' = .returned (.bool (decide (0 ≤ idxOp c n.op))) ∧ Turn (X b (closeNd n c)) S w w'
  copy : ∀ (b f : Nat) (n fn : Nd) (k kf : Nat) (m : Int) (S T : Nat → Prop) (w : World), (X b n).p S w → (X f fn).p T w → (∀ k, S k → ¬ T k) → NdI k n → NdI kf fn → I64n m →
    Calls Tryz.prog 31 #[.pointer (some ⟨b, 0, none⟩), .pointer (some ⟨f, 0, none⟩), .int .i64 m] w fun e' w' => e' = .returned (.int .i64 (copyNd n fn m).1) ∧ Turn (X b (copyNd n fn m).2) S w w'
  self : ∀ (b : Nat) (n : Nd) (k : Nat) (m : Int) (S : Nat → Prop) (w : World), (X b n).p S w → NdI k n → I64n m →
    Calls Tryz.prog 31 #[.pointer (some ⟨b, 0, none⟩), .pointer (some ⟨b, 0, none⟩), .int .i64 m] w fun e' w' => e' = .returned (.int .i64 (copyNd n n m).1) ∧ Turn (X b (copyNd n n m).2) S w w'
  epoch : ∀ (b : Nat) (n : Nd) (k : Nat) (S : Nat → Prop) (w : World), (X b n).p S w → NdI k n →
    Calls Tryz.prog 17 #[.pointer (some ⟨b, 0, none⟩)] w fun e' w' => e' = .returned (.int .u64 n.ep) ∧ Below w.heap.size w w'
  leads : ∀ (b : Nat) (n : Nd) (k : Nat) (S : Nat → Prop) (w : World), (X b n).p S w → NdI k n →
    Calls Tryz.prog 18 #[.pointer (some ⟨b, 0, none⟩)] w fun e' w' => e' = .returned (.bool n.ld) ∧ Below w.heap.size w w'
  log : ∀ (b : Nat) (n : Nd) (k : Nat) (S : Nat → Prop) (w : World), (X b n).p S w → NdI k n →
    Calls Tryz.prog 21 #[.pointer (some ⟨b, 0, none⟩)] w fun e' w' => ∃ A m d, e' = .returned (.slice A m d) ∧ m ≤ d ∧ LR w' A m n.lg ∧ Told1 (X b n) S A w w'
structure NodeC (X : Nat → Nd → Thing) : Prop extends NodeC0 X where
  table : ∀ (b : Nat) (n : Nd) (k : Nat) (S : Nat → Prop) (w : World), Lw w → (X b n).p S w → NdI k n →
    Calls Tryz.prog 16 #[.pointer (some ⟨b, 0, none⟩)] w fun e' w' => ∃ A m d, e' = .returned (.slice A m d) ∧ KR w' A m (tabN n.lg []) ∧ Turn (X b n) S w w'

/-- one of three -/
theorem lof_ok (n : Int) (w : World) :
    Calls Tryz.prog 15 #[.int .i64 n] w fun e w' => e = .returned (.int .i64 (n % 3)) ∧ w = w' := by
  have h1 : n.tmod 3 = n % 3 ∨ (n % 3 ≠ 0 ∧ n.tmod 3 = n % 3 - 3) := by
    by_cases hn : 0 ≤ n
    · exact .inl (Int.tmod_eq_emod_of_nonneg hn)
    · have h2 : n.tmod 3 = -((-n) % 3) := by
        rw [← Int.tmod_eq_emod_of_nonneg (show (0 : Int) ≤ -n by omega), Int.neg_tmod, Int.neg_neg]
      omega
  have hb : -3 < n.tmod 3 ∧ n.tmod 3 < 3 := by omega
  have hw0 : IntKind.i64.wrap (n.tmod 3) = n.tmod 3 := by rw [IntKind.wrap_i64]; omega
  have hw1 : IntKind.i64.wrap (n.tmod 3 + 3) = n.tmod 3 + 3 := by rw [IntKind.wrap_i64]; omega
  have h2 : (n.tmod 3 + 3).tmod 3 = n % 3 := by
    rw [Int.tmod_eq_emod_of_nonneg (by omega)]
    omega
  have hw2 : IntKind.i64.wrap (n % 3) = n % 3 := by rw [IntKind.wrap_i64]; omega
  go_enter Tryz.func15, Tryz.ntmps15
  go_wp2_with fail
  go_ret
  exact ⟨by first | rfl | rw [h2]; rfl | simp [h2], rfl⟩
theorem lreply_ok (r : Rp) (A : Option Addr) (m d : Nat) (w : World) :
    Calls Tryz.prog 32 #[rpV r A m d] w fun e w' => e = .returned (rpV r A m d) ∧ Below w.heap.size w w' := by
  obtain ⟨e, ep, pl, ts⟩ := r
  unfold rpV
  dsimp only
  go_enter Tryz.func32, Tryz.ntmps32
  go_wp2_with fail
  refine bodyPost_ret (v := .agg #[.int .i64 e, .int .u64 ep, .int .u64 pl, .slice A m d]) ?_ rfl ⟨rfl, ?_⟩
  · rw [results_cell1 rfl]
    go_simp
  · exact kp_alloc (kp_new _ _) _
end

/- Three things of one kind, in blocks of their own, as one thing (no function of the program is named here). -/
section
open Go.RowKit
set_option maxRecDepth 100000

section
variable {α : Type} {Y : Nat → α → Thing} {bs : Nat → Nat} {ns : Nat → α} {S : Nat → Prop} {w w' : World} {P : Program}
def Tri (Y : Nat → α → Thing) (bs : Nat → Nat) (ns : Nat → α) : Thing where
  p := fun S w => ∃ Ss : Nat → Nat → Prop, (∀ i, i < 3 → (Y (bs i) (ns i)).p (Ss i) w) ∧ (∀ i j, i < 3 → j < 3 → i ≠ j → ∀ k, Ss i k → ¬ Ss j k) ∧ ∀ k, S k ↔ ∃ i, i < 3 ∧ Ss i k
  keep := fun ⟨Ss, h1, h2, h3⟩ hk hz => ⟨Ss, fun i hi => (Y (bs i) (ns i)).keep (h1 i hi) (fun k e => hk k ((h3 k).2 ⟨i, hi, e⟩)) hz, h2, h3⟩
  lt := fun ⟨_, h1, _, h3⟩ k hk => by
    obtain ⟨i, hi, e⟩ := (h3 k).1 hk
    exact (Y (bs i) (ns i)).lt (h1 i hi) k e
/-- one of them is another -/
def upd3 (ns : Nat → α) (i : Nat) (x : α) : Nat → α := fun j => if j = i then x else ns j
theorem upd3_at (ns : Nat → α) (i : Nat) (x : α) : upd3 ns i x i = x := if_pos rfl
theorem upd3_ne (ns : Nat → α) {i j : Nat} (x : α) (h : j ≠ i) : upd3 ns i x j = ns j := if_neg h
theorem Tri.make {Ss : Nat → Nat → Prop} (h : ∀ i, i < 3 → (Y (bs i) (ns i)).p (Ss i) w) (hd : ∀ i j, i < 3 → j < 3 → i ≠ j → ∀ k, Ss i k → ¬ Ss j k) : (Tri Y bs ns).p (fun k => ∃ i, i < 3 ∧ Ss i k) w := ⟨Ss, h, hd, fun _ => Iff.rfl⟩
/-- what a call on one of them leaves -/
theorem Tri.turn {i : Nat} (hi : i < 3) {x : α} {Ss : Nat → Nat → Prop} (h1 : ∀ i, i < 3 → (Y (bs i) (ns i)).p (Ss i) w) (h2 : ∀ i j, i < 3 → j < 3 → i ≠ j → ∀ k, Ss i k → ¬ Ss j k) (h3 : ∀ k, S k ↔ ∃ i, i < 3 ∧ Ss i k) (ht : Turn (Y (bs i) x) (Ss i) w w') :
    Turn (Tri Y bs (upd3 ns i x)) S w w' := by
  obtain ⟨⟨S', k1, k2⟩, ko⟩ := ht
  have hlt : ∀ j, j < 3 → ∀ k, Ss j k → k < w.heap.size := fun j hj k hk => (Y (bs j) (ns j)).lt (h1 j hj) k hk
  refine ⟨⟨fun k => ∃ j, j < 3 ∧ (upd3 Ss i S') j k, ⟨upd3 Ss i S', fun j hj => ?_, fun a c ha hc hac k e1 e2 => ?_, fun _ => Iff.rfl⟩, fun k hk => ?_⟩, ko.wide fun k hk => (h3 k).2 ⟨i, hi, hk⟩⟩
  · by_cases hji : j = i
    · subst hji
      rw [upd3_at, upd3_at]
      exact k1
    · rw [upd3_ne ns x hji, upd3_ne Ss S' hji]
      exact Thing.off (h1 j hj) ko fun k e1 e2 => h2 j i hj hi hji k e1 e2
  · by_cases hai : a = i
    · subst hai
      rw [upd3_at] at e1
      rw [upd3_ne Ss S' (fun e => hac e.symm)] at e2
      rcases k2 k e1 with e | e
      · exact h2 a c ha hc hac k e e2
      · have := hlt c hc k e2; omega
    · rw [upd3_ne Ss S' hai] at e1
      by_cases hci : c = i
      · subst hci
        rw [upd3_at] at e2
        rcases k2 k e2 with e | e
        · exact h2 a c ha hc hac k e1 e
        · have := hlt a ha k e1; omega
      · rw [upd3_ne Ss S' hci] at e2
        exact h2 a c ha hc hac k e1 e2
  · obtain ⟨j, hj, e⟩ := hk
    by_cases hji : j = i
    · subst hji
      rw [upd3_at] at e
      exact (k2 k e).imp (fun e => (h3 k).2 ⟨j, hj, e⟩) id
    · rw [upd3_ne Ss S' hji] at e
      exact .inl ((h3 k).2 ⟨j, hj, e⟩)
theorem Tri.op {f : FuncId} {args : Array Value} {Q : Ending → World → Prop} {i : Nat} (h : (Tri Y bs ns).p S w) (hi : i < 3) {x : α} (hop : ∀ S', (Y (bs i) (ns i)).p S' w → Calls P f args w fun e w' => Q e w' ∧ Turn (Y (bs i) x) S' w w') :
    Calls P f args w fun e w' => Q e w' ∧ Turn (Tri Y bs (upd3 ns i x)) S w w' := by
  obtain ⟨Ss, h1, h2, h3⟩ := h
  exact (hop (Ss i) (h1 i hi)).mono fun _ _ ⟨hq, ht⟩ => ⟨hq, Tri.turn hi h1 h2 h3 ht⟩
theorem Tri.op2 {f : FuncId} {args : Array Value} {Q : Ending → World → Prop} {i j : Nat} (h : (Tri Y bs ns).p S w) (hi : i < 3) (hj : j < 3) (hij : i ≠ j) {x : α} (hop : ∀ S' T', (Y (bs i) (ns i)).p S' w → (Y (bs j) (ns j)).p T' w → (∀ k, S' k → ¬ T' k) → Calls P f args w fun e w' => Q e w' ∧ Turn (Y (bs i) x) S' w w') :
    Calls P f args w fun e w' => Q e w' ∧ Turn (Tri Y bs (upd3 ns i x)) S w w' := by
  obtain ⟨Ss, h1, h2, h3⟩ := h
  exact (hop (Ss i) (Ss j) (h1 i hi) (h1 j hj) (h2 i j hi hj hij)).mono fun _ _ ⟨hq, ht⟩ => ⟨hq, Tri.turn hi h1 h2 h3 ht⟩
theorem Tri.ask {f : FuncId} {args : Array Value} {Q : Ending → World → Prop} {i : Nat} (h : (Tri Y bs ns).p S w) (hi : i < 3) (hop : ∀ S', (Y (bs i) (ns i)).p S' w → Calls P f args w fun e w' => Q e w' ∧ Below w.heap.size w w') :
    Calls P f args w fun e w' => Q e w' ∧ Below w.heap.size w w' := by
  obtain ⟨Ss, h1, _⟩ := h
  exact hop (Ss i) (h1 i hi)
end
end

/- Layer 15: acts, plain and as rows; the law's large: contract. -/
section
open Go.RowKit
set_option maxRecDepth 100000

/-- an act -/
structure Ac8 where
  d : Int
  nd : Int
  fr : Int
  c : Int
  m : Int
  e : Int
  rd : Bool
  t : ByteArray
instance : Inhabited Ac8 := ⟨⟨0, 0, 0, 0, 0, 0, false, ⟨#[]⟩⟩⟩
def Ac8.cells (x : Ac8) : List Value := [.int .i64 x.d, .int .i64 x.nd, .int .i64 x.fr, .int .i64 x.c, .int .i64 x.m, .int .u64 x.e, .bool x.rd, .string x.t]
structure Ac8.Fine (x : Ac8) : Prop where
  nd : I64n x.nd
  fr : I64n x.fr
  c : I64n x.c
  m : I64n x.m
  e : U64n x.e
/-- what an act answers -/
structure To15 where
  r : Rp
  is : Bool
  many : Int
def noRp : Rp := ⟨0, 0, 0, []⟩
/-- which one of three -/
def of3 (n : Int) : Nat := (n % 3).toNat
theorem of3_lt (n : Int) : of3 n < 3 := by unfold of3; omega
theorem of3_val (n : Int) : ((of3 n : Nat) : Int) = n % 3 := by unfold of3; omega
/-- an act on three nodes -/
def actN (ns : Nat → Nd) (x : Ac8) : To15 × (Nat → Nd) :=
  if x.d = 0 then (⟨(runNd (ns (of3 x.nd)) x.c x.e x.rd x.t).1, false, 0⟩, upd3 ns (of3 x.nd) (runNd (ns (of3 x.nd)) x.c x.e x.rd x.t).2)
  else if x.d = 1 then (⟨noRp, decide (0 ≤ idxOp x.c (ns (of3 x.nd)).op), 0⟩, upd3 ns (of3 x.nd) (closeNd (ns (of3 x.nd)) x.c))
  else if x.d = 2 then (⟨noRp, decide ((ns (of3 x.nd)).ep ≤ x.e), 0⟩, upd3 ns (of3 x.nd) (leadNd (ns (of3 x.nd)) x.e))
  else (⟨noRp, false, (copyNd (ns (of3 x.nd)) (ns (of3 x.fr)) x.m).1⟩, upd3 ns (of3 x.nd) (copyNd (ns (of3 x.nd)) (ns (of3 x.fr)) x.m).2)
theorem actN_inv {ns : Nat → Nd} {k : Nat} {x : Ac8} (h : ∀ i, NdI k (ns i)) (hx : x.Fine) (ht : Sm x.t) : ∀ i, NdI (k + 1) ((actN ns x).2 i) := by
  have key : ∀ (i : Nat) (n : Nd), NdI (k + 1) n → ∀ j, NdI (k + 1) (upd3 ns i n j) := fun i n hn j => by
    by_cases hj : j = i
    · subst hj; rw [upd3_at]; exact hn
    · rw [upd3_ne ns n hj]; exact (h j).more (Nat.le_succ k)
  intro i
  unfold actN
  split
  · exact key _ _ ((h _).run ht hx.c.1 hx.c.2) i
  split
  · exact key _ _ (((h _).close _).more (Nat.le_succ k)) i
  split
  · exact key _ _ (((h _).lead hx.e.1 hx.e.2).more (Nat.le_succ k)) i
  · exact key _ _ (((h _).copy (h _) _).more (Nat.le_succ k)) i
def ac8C (ts : List Ac8) : List Value := ts.flatMap Ac8.cells
theorem ac8C_length : ∀ ts : List Ac8, (ac8C ts).length = ts.length * 8
  | [] => rfl
  | r :: rs => by
    have := ac8C_length rs
    simp only [ac8C, List.flatMap_cons, List.length_append, List.length_cons, Ac8.cells, List.length_nil] at this ⊢
    omega
theorem ac8C_at : ∀ (rs : List Ac8) (j : Nat) (h : j < rs.length) (i : Nat) (v : Value), rs[j].cells[i]? = some v → (ac8C rs)[j * 8 + i]? = some v
  | [], _, h, _, _, _ => by simp at h
  | r :: rs, 0, _, i, v, hv => by
    have hv' : r.cells[i]? = some v := hv
    have hi : i < r.cells.length := (List.getElem?_eq_some_iff.1 hv').1
    simp only [ac8C, List.flatMap_cons, Nat.zero_mul, Nat.zero_add]
    rw [List.getElem?_append_left hi]
    exact hv'
  | r :: rs, j + 1, h, i, v, hv => by
    have ih := ac8C_at rs j (by simpa using h) i v hv
    have hl : r.cells.length = 8 := rfl
    simp only [ac8C, List.flatMap_cons] at ih ⊢
    rw [List.getElem?_append_right (by rw [hl]; omega), hl]
    rw [show (j + 1) * 8 + i - 8 = j * 8 + i by omega]
    exact ih
/-- a row of acts that is read -/
structure AE (w : World) (A : Option Addr) (n : Nat) (ts : List Ac8) : Prop where
  len : ts.length = n
  rd : Rd w w.heap.size A (ac8C ts)
theorem AE.next {w w' : World} {A : Option Addr} {n : Nat} {ts : List Ac8} (h : AE w A n ts) (hb : Below w.heap.size w w') : AE w' A n ts := ⟨h.len, (h.rd.below hb (Nat.le_refl _)).more hb.size⟩
theorem AE.at_ {w : World} {A : Option Addr} {n : Nat} {ts : List Ac8} (h : AE w A n ts) {j : Nat} (hj : j < ts.length) : ∃ ad, A = some ad ∧ ad.block < w.heap.size ∧ ∀ w', Below w.heap.size w w' →
    w'.cell? (ad.add (j * 8)) = some (.int .i64 ts[j].d) ∧ w'.cell? ⟨(ad.add (j * 8)).block, (ad.add (j * 8)).off + 1, none⟩ = some (.int .i64 ts[j].nd) ∧ w'.cell? ⟨(ad.add (j * 8)).block, (ad.add (j * 8)).off + 2, none⟩ = some (.int .i64 ts[j].fr) ∧ w'.cell? ⟨(ad.add (j * 8)).block, (ad.add (j * 8)).off + 3, none⟩ = some (.int .i64 ts[j].c) ∧
    w'.cell? ⟨(ad.add (j * 8)).block, (ad.add (j * 8)).off + 4, none⟩ = some (.int .i64 ts[j].m) ∧ w'.cell? ⟨(ad.add (j * 8)).block, (ad.add (j * 8)).off + 5, none⟩ = some (.int .u64 ts[j].e) ∧ w'.cell? ⟨(ad.add (j * 8)).block, (ad.add (j * 8)).off + 6, none⟩ = some (.bool ts[j].rd) ∧ w'.cell? ⟨(ad.add (j * 8)).block, (ad.add (j * 8)).off + 7, none⟩ = some (.string ts[j].t) := by
  obtain ⟨ad, hA, hb, hc⟩ := h.rd.addr (by rw [ac8C_length]; omega)
  have key : ∀ (w' : World) (i : Nat) (v : Value), Below w.heap.size w w' → ts[j].cells[i]? = some v → w'.cell? (ad.add (j * 8 + i)) = some v := fun w' i v hw hv => by
    rw [hw.cell (by rw [add_block]; exact hb)]
    exact hc _ _ (ac8C_at ts j hj i v hv)
  have a1 : ∀ i, i ≠ 0 → (⟨(ad.add (j * 8)).block, (ad.add (j * 8)).off + i, none⟩ : Addr) = ad.add (j * 8 + i) := fun i hi => by rw [← add_add]; unfold Addr.add; simp [hi]
  refine ⟨ad, hA, hb, fun w' hw => ⟨key w' 0 _ hw rfl, ?_, ?_, ?_, ?_, ?_, ?_, ?_⟩⟩
  · rw [a1 1 (by decide)]; exact key w' 1 _ hw rfl
  · rw [a1 2 (by decide)]; exact key w' 2 _ hw rfl
  · rw [a1 3 (by decide)]; exact key w' 3 _ hw rfl
  · rw [a1 4 (by decide)]; exact key w' 4 _ hw rfl
  · rw [a1 5 (by decide)]; exact key w' 5 _ hw rfl
  · rw [a1 6 (by decide)]; exact key w' 6 _ hw rfl
  · rw [a1 7 (by decide)]; exact key w' 7 _ hw rfl
def acO (x : Ac8) : Obj := .cells #[.int .i64 x.d, .int .i64 x.nd, .int .i64 x.fr, .int .i64 x.c, .int .i64 x.m, .int .u64 x.e, .bool x.rd, .string x.t] 32 (0, 0)
set_option maxHeartbeats 8000000 in
/-- acts that are looked at -/
theorem llarge15_ok (A : Option Addr) (n c : Nat) (ts : List Ac8) (w : World) (hx : AE w A n ts) :
    Calls Tryz.prog 9 #[.slice A n c] w fun e w' => ∃ b, e = .returned (.bool b) ∧ (b = false → n ≤ 60 ∧ ∀ x ∈ ts, Sm x.t) ∧ Below w.heap.size w w' := by
  have HX := Lib.hid hx
  have HL := Lib.hid hx.len
  clear hx
  by_cases hbig : 60 < n
  · have h2 : (60 : Int) < (n : Int) := by omega
    go_enter Tryz.func9, Tryz.ntmps9
    go_wp2_with fail
    go_ret
    exact ⟨true, rfl, (fun h => by cases h), Below.refl _ _⟩
  have h2 : ¬ (60 : Int) < (n : Int) := by omega
  go_enter Tryz.func9, Tryz.ntmps9
  go_wp2_with fail
  go_loopw [10] (fun i wr => ∃ q : Nat, q ≤ n ∧ i = .int .i64 q ∧ Hid (∀ j (hj : j < ts.length), j < q → Sm ts[j].t) ∧ Hid (Below w.heap.size w wr)) (fun i _ => n - (intOf i).toNat)
  case atStart => exact ⟨0, Nat.zero_le _, rfl, Lib.hid (fun j _ h => absurd h (Nat.not_lt_zero _)), Lib.hid (Below.refl _ _)⟩
  case round =>
    obtain ⟨q, hq, rfl, he, hw⟩ := hrel
    by_cases hlt : q < n
    · have hql : q < ts.length := by rw [HL.out]; exact hlt
      obtain ⟨ad, rfl, _, hc⟩ := HX.out.at_ hql
      obtain ⟨d0, d1, d2, d3, d4, d5, d6, d7⟩ := hc wr hw.out
      have HKW := Lib.hid (kp_alloc hw.out (acO ts[q]))
      unfold acO at HKW
      have hsz : Sm ts[q].t ∨ 300 < ts[q].t.size := by unfold Sm; omega
      have HNX : Hid (Sm ts[q].t → ∀ j (hj : j < ts.length), j < q + 1 → Sm ts[j].t) := Lib.hid fun h j hj hjq => by
        by_cases e : j = q
        · subst e; exact h
        · exact he.out j hj (by omega)
      clear hc he
      generalize ts[q].d = x0 at *
      generalize ts[q].nd = x1 at *
      generalize ts[q].fr = x2 at *
      generalize ts[q].c = x3 at *
      generalize ts[q].m = x4 at *
      generalize ts[q].e = x5 at *
      generalize ts[q].rd = x6 at *
      generalize ts[q].t = x7 at *
      rcases hsz with hs | hs
      · have HS := Lib.hid (HNX.out hs)
        have hs2 : ¬ (300 : Int) < (x7.size : Int) := by unfold Sm at hs; omega
        clear hs HNX
        go_wp2_with fail
        go_roundw
        case rel => exact ⟨q + 1, by omega, by go_num, HS, HKW⟩
        case measure => simp [intOf]; omega
      · have hs2 : (300 : Int) < (x7.size : Int) := by omega
        clear hs HNX
        go_wp2_with fail
        go_ret
        exact ⟨true, rfl, (fun h => by cases h), HKW.out⟩
    · obtain rfl : q = n := by omega
      go_wp2_with fail
      go_ret
      exact ⟨false, rfl, fun _ => ⟨by omega, fun x hx => by
        obtain ⟨j, hj, rfl⟩ := List.getElem_of_mem hx
        exact he.out j hj (by have := HL.out; omega)⟩, hw.out⟩
end

/- The document's layer 15: entries that are compared; Same, Alike: contracts. -/
section
open Go.RowKit
set_option maxRecDepth 100000

theorem neq_ents (T : TypeId) (hT : T = 71) (k k' : Int) (t t' : ByteArray) (w : World) : (binOp .neq T (.agg #[.int .u64 k, .string t]) (.agg #[.int .u64 k', .string t'])).run Tryz.prog w = .ok (.bool (!decide ((⟨k, t⟩ : Lg) = ⟨k', t'⟩))) w := by
  subst hT
  have hf : (Tryz.prog.fieldsOf 71) = (match Tryz.prog.underlying 71 with | some (.struct fs) => fs | _ => #[]) := rfl
  have hu := Tryz.underlying71
  rw [hu] at hf
  rw [run_neq_struct, run_equalIn_agg (P := Tryz.prog) w 9999 _ _ _ (by rw [hf]; exact hu) (by kernel_rfl), hf]
  have h9 := Tryz.underlying9
  have hz9 := Tryz.sizeOf9
  have ha9 := Tryz.isAgg9
  have h8 := Tryz.underlying30
  have hz8 := Tryz.sizeOf30
  have ha8 := Tryz.isAgg30
  have p1 : ∀ (x : Int) (u : ByteArray) (w : World), (part 30 #[.int .u64 x, .string u] 0).run Tryz.prog w = .ok (.int .u64 x) w := fun x u w => by simp [part, hz8, ha8]
  have p2 : ∀ (x : Int) (u : ByteArray) (w : World), (part 9 #[.int .u64 x, .string u] 1).run Tryz.prog w = .ok (.string u) w := fun x u w => by simp [part, hz9, ha9]
  have e1 : ∀ (x y : Int) (w : World), (Op.equalIn 9999 30 (.int .u64 x) (.int .u64 y)).run Tryz.prog w = .ok (x == y) w := fun x y w => run_equalIn_int w 9998 30 .u64 .u64 x y h8
  have e2 : ∀ (x y : ByteArray) (w : World), (Op.equalIn 9999 9 (.string x) (.string y)).run Tryz.prog w = .ok (x.toList == y.toList) w := fun x y w => run_equalIn_string w 9998 9 x y h9
  have ht : t.toList = t'.toList ↔ t = t' := ⟨bytes_ext, fun h => by rw [h]⟩
  by_cases h1 : k = k'
  · by_cases h2 : t = t'
    · simp [Op.eqFields, p1, p2, e1, e2, h1, h2]
    · simp [Op.eqFields, p1, p2, e1, e2, ht, h1, h2]
  · simp [Op.eqFields, p1, p2, e1, e2, h1]

theorem eql_ents (T : TypeId) (hT : T = 71) (k k' : Int) (t t' : ByteArray) (w : World) : (binOp .eql T (.agg #[.int .u64 k, .string t]) (.agg #[.int .u64 k', .string t'])).run Tryz.prog w = .ok (.bool (decide ((⟨k, t⟩ : Lg) = ⟨k', t'⟩))) w := by
  subst hT
  have hf : (Tryz.prog.fieldsOf 71) = (match Tryz.prog.underlying 71 with | some (.struct fs) => fs | _ => #[]) := rfl
  have hu := Tryz.underlying71
  rw [hu] at hf
  rw [run_eql_struct, run_equalIn_agg (P := Tryz.prog) w 9999 _ _ _ (by rw [hf]; exact hu) (by kernel_rfl), hf]
  have h9 := Tryz.underlying9
  have hz9 := Tryz.sizeOf9
  have ha9 := Tryz.isAgg9
  have h8 := Tryz.underlying30
  have hz8 := Tryz.sizeOf30
  have ha8 := Tryz.isAgg30
  have p1 : ∀ (x : Int) (u : ByteArray) (w : World), (part 30 #[.int .u64 x, .string u] 0).run Tryz.prog w = .ok (.int .u64 x) w := fun x u w => by simp [part, hz8, ha8]
  have p2 : ∀ (x : Int) (u : ByteArray) (w : World), (part 9 #[.int .u64 x, .string u] 1).run Tryz.prog w = .ok (.string u) w := fun x u w => by simp [part, hz9, ha9]
  have e1 : ∀ (x y : Int) (w : World), (Op.equalIn 9999 30 (.int .u64 x) (.int .u64 y)).run Tryz.prog w = .ok (x == y) w := fun x y w => run_equalIn_int w 9998 30 .u64 .u64 x y h8
  have e2 : ∀ (x y : ByteArray) (w : World), (Op.equalIn 9999 9 (.string x) (.string y)).run Tryz.prog w = .ok (x.toList == y.toList) w := fun x y w => run_equalIn_string w 9998 9 x y h9
  have ht : t.toList = t'.toList ↔ t = t' := ⟨bytes_ext, fun h => by rw [h]⟩
  by_cases h1 : k = k'
  · by_cases h2 : t = t'
    · simp [Op.eqFields, p1, p2, e1, e2, h1, h2]
    · simp [Op.eqFields, p1, p2, e1, e2, ht, h1, h2]
  · simp [Op.eqFields, p1, p2, e1, e2, h1]

set_option maxHeartbeats 2000000 in
theorem rsame15_ok (A A' : Option Addr) (n n' c c' : Nat) (xs ys : List Lg) (w : World) (hx : LR w A n xs) (hy : LR w A' n' ys) (hn : n ≤ 1000000) (hn' : n' ≤ 1000000) (b : Bool) (hb : Hid (decide (xs = ys) = b)) :
    Calls Tryz.prog 19 #[.slice A n c, .slice A' n' c'] w fun e w' => e = .returned (.bool b) ∧ ∃ m, w' = w.drewN m := by
  by_cases hll : n = n'
  · subst hll
    have hlx := Lib.hid hx.len
    have hly := Lib.hid hy.len
    go_enter Tryz.func19, Tryz.ntmps19
    go_wp2
    go_loopw [5] (fun i wr => ∃ k m : Nat, k ≤ n ∧ i = .int .i64 k ∧ Hid (xs.take k = ys.take k) ∧ wr = w.drewN m) (fun i _ => n - (intOf i).toNat)
    case atStart => exact ⟨0, 0, Nat.zero_le _, rfl, Lib.hid (by simp), rfl⟩
    case round =>
      obtain ⟨k, m, hk, rfl, he, hw⟩ := hrel
      have hx' : LR wr A n xs := by subst hw; exact hx.next (kp_drewN _ _)
      have hy' : LR wr A' n ys := by subst hw; exact hy.next (kp_drewN _ _)
      have HW := Lib.hid hw
      clear hw hx hy
      by_cases hlt : k < n
      · have hkx : k < xs.length := by rw [hlx.out]; omega
        have hky : k < ys.length := by rw [hly.out]; omega
        obtain ⟨ad, rfl, _, hc⟩ := hx'.at_ hkx
        obtain ⟨ad', rfl, _, hc'⟩ := hy'.at_ hky
        obtain ⟨c0, c1⟩ := hc _ (Below.refl _ _)
        obtain ⟨d0, d1⟩ := hc' _ (Below.refl _ _)
        clear hc hc' hx' hy'
        have hE := fun u => neq_ents 71 rfl xs[k].e ys[k].e xs[k].t ys[k].t u
        by_cases hee : xs[k] = ys[k]
        · have hsn : Hid (xs.take (k + 1) = ys.take (k + 1)) := Lib.hid (take_same6 hkx hky he.out hee)
          have hd : (!decide ((⟨xs[k].e, xs[k].t⟩ : Lg) = ⟨ys[k].e, ys[k].t⟩)) = false := by
            rw [decide_eq_true (by exact hee)]; rfl
          rw [hd] at hE
          clear hee hd
          generalize xs[k].e = x at *
          generalize ys[k].e = y at *
          generalize xs[k].t = s at *
          generalize ys[k].t = t at *
          go_wp2
          go_quiet (fail)
          go_wp2
          go_roundw
          case rel => exact ⟨k + 1, m + nq, by omega, by go_num, hsn, by rw [HW.out, World.drewN_drewN]⟩
          case measure => simp [intOf]; omega
        · have hf : b = false := by
            rw [← hb.out]
            simp only [decide_eq_false_iff_not]
            rintro rfl
            exact hee rfl
          subst hf
          have hd : (!decide ((⟨xs[k].e, xs[k].t⟩ : Lg) = ⟨ys[k].e, ys[k].t⟩)) = true := by
            rw [decide_eq_false (by exact hee)]; rfl
          rw [hd] at hE
          clear hee hd
          generalize xs[k].e = x at *
          generalize ys[k].e = y at *
          generalize xs[k].t = s at *
          generalize ys[k].t = t at *
          go_wp2
          go_quiet (fail)
          go_wp2
          go_ret
          exact ⟨rfl, m + nq, by rw [HW.out, World.drewN_drewN]⟩
      · have hf : b = true := by
          rw [← hb.out]
          have h1 := he.out
          rw [List.take_of_length_le (by rw [hlx.out]; omega), List.take_of_length_le (by rw [hly.out]; omega)] at h1
          simp [h1]
        subst hf
        go_wp2
        go_ret
        exact ⟨rfl, m, HW.out⟩
  · have hf : b = false := by
      rw [← hb.out]
      simp only [decide_eq_false_iff_not]
      rintro rfl
      have := hx.len
      have := hy.len
      omega
    subst hf
    have ht : ((n : Int) != (n' : Int)) = true := by rw [bne_iff_ne]; omega
    go_enter Tryz.func19, Tryz.ntmps19
    go_wp2
    go_ret
    exact ⟨rfl, 0, rfl⟩

/-- replies that are the same -/
theorem ralike15_ok (r : Rp) (A A' : Option Addr) (m m' d d' : Nat) (w : World) (hx : XR w A m r.ts) (hy : XR w A' m' r.ts) (hm : m ≤ 1000000) (hm' : m' ≤ 1000000) :
    Calls Tryz.prog 14 #[.agg #[.int .i64 r.e, .int .u64 r.ep, .int .u64 r.pl, .slice A m d], .agg #[.int .i64 r.e, .int .u64 r.ep, .int .u64 r.pl, .slice A' m' d']] w fun e w' => e = .returned (.bool true) ∧ Below w.heap.size w w' := by
  obtain ⟨e, ep, pl, ts⟩ := r
  dsimp only at hx hy ⊢
  obtain ⟨w2, hw2⟩ : ∃ u, (w.alloc (.cells #[.int .i64 e, .int .u64 ep, .int .u64 pl, .slice A m d] 36)).alloc (.cells #[.int .i64 e, .int .u64 ep, .int .u64 pl, .slice A' m' d'] 36) = u := ⟨_, rfl⟩
  have k2 : Below w.heap.size w w2 := hw2 ▸ kp_alloc (kp_new _ _) _
  have HQ := Lib.hid (texts6_ok A A' m m' d d' ts ts w2 (hx.next k2) (hy.next k2) hm hm' true (Lib.hid (by simp)))
  have HW := Lib.hid hw2
  have HK := Lib.hid k2
  clear hx hy hw2 k2
  go_enter Tryz.func14, Tryz.ntmps14
  go_wp2_with fail
  rw [HW.out]
  refine HQ.out.mono ?_
  rintro e3 w3 ⟨rfl, q, rfl⟩
  have HB := Lib.hid (HK.out.trans ((kp_drewN w2 q).mono HK.out.size))
  generalize w2.drewN q = w4 at *
  clear HQ
  go_wp2_with fail
  go_ret
  exact ⟨rfl, HB.out⟩
end
end Go.Proofs.YtaoegiohnebnhaaGreatDoor
