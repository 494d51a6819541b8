/-
  Contracts and plain functions that the law stands on, part 7 of 19.
-/
import Derived.Test.YtdhnpmagapbmhaaGreatDoorQA6
import Derived.Deep.AppendSrc
import Derived.Lib.SliceRun
import Derived.Maps.OwnOps
import Derived.StringKeys
import Derived.Maps.OwnSet
import Derived.Tactics
import Derived.Tactics2
import Derived.Defers
import Derived.Laws.Pointers
import Derived.Laws.LoneSync
import Derived.RegionTactic
import Derived.RegionCalls
import Derived.ChangeAlike
import Derived.Laws.NewBlocks
import Derived.Deep.RegionWith
import Derived.Deep.Cut
namespace Go.Proofs.YtdhnpmagapbmhaaGreatDoor
/- Layer 15: three things, one of which is asked for a row; one thing that a call made itself, likewise (no function of the program is named here). -/
section
open Go.RowKit
set_option maxRecDepth 100000

section
variable {α : Type} {P : Program} {w0 w w' : World} {X X' : Thing} {Y : Nat → α → Thing} {bs : Nat → Nat} {ns : Nat → α} {N S : Nat → Prop}
end
end

/- Many things of one kind, in blocks of their own, as one thing; one of them is asked for a row (no function of the program is named here). -/
section
open Go.RowKit
set_option maxRecDepth 100000

section
variable {α : Type} {Y : Nat → α → Thing} {N : Nat} {bs : Nat → Nat} {ns : Nat → α} {S : Nat → Prop} {w w' : World} {P : Program}
def Many (Y : Nat → α → Thing) (N : Nat) (bs : Nat → Nat) (ns : Nat → α) : Thing where
  p := fun S w => ∃ Ss : Nat → Nat → Prop, (∀ i, i < N → (Y (bs i) (ns i)).p (Ss i) w) ∧ (∀ i j, i < N → j < N → i ≠ j → ∀ k, Ss i k → ¬ Ss j k) ∧ ∀ k, S k ↔ ∃ i, i < N ∧ Ss i k
  keep := fun ⟨Ss, h1, h2, h3⟩ hk hz => ⟨Ss, fun i hi => (Y (bs i) (ns i)).keep (h1 i hi) (fun k e => hk k ((h3 k).2 ⟨i, hi, e⟩)) hz, h2, h3⟩
  lt := fun ⟨_, h1, _, h3⟩ k hk => by
    obtain ⟨i, hi, e⟩ := (h3 k).1 hk
    exact (Y (bs i) (ns i)).lt (h1 i hi) k e
/-- what a call on one of them leaves -/
theorem Many.turn {i : Nat} (hi : i < N) {x : α} {Ss : Nat → Nat → Prop} (h1 : ∀ i, i < N → (Y (bs i) (ns i)).p (Ss i) w) (h2 : ∀ i j, i < N → j < N → i ≠ j → ∀ k, Ss i k → ¬ Ss j k) (h3 : ∀ k, S k ↔ ∃ i, i < N ∧ Ss i k) (ht : Turn (Y (bs i) x) (Ss i) w w') :
    Turn (Many Y N bs (upd3 ns i x)) S w w' := by
  obtain ⟨⟨S', k1, k2⟩, ko⟩ := ht
  have hlt : ∀ j, j < N → ∀ k, Ss j k → k < w.heap.size := fun j hj k hk => (Y (bs j) (ns j)).lt (h1 j hj) k hk
  refine ⟨⟨fun k => ∃ j, j < N ∧ (upd3 Ss i S') j k, ⟨upd3 Ss i S', fun j hj => ?_, fun a c ha hc hac k e1 e2 => ?_, fun _ => Iff.rfl⟩, fun k hk => ?_⟩, ko.wide fun k hk => (h3 k).2 ⟨i, hi, hk⟩⟩
  · by_cases hji : j = i
    · subst hji
      rw [upd3_at, upd3_at]
      exact k1
    · rw [upd3_ne ns x hji, upd3_ne Ss S' hji]
      exact Thing.off (h1 j hj) ko fun k e1 e2 => h2 j i hj hi hji k e1 e2
  · by_cases hai : a = i
    · subst hai
      rw [upd3_at] at e1
      rw [upd3_ne Ss S' (fun e => hac e.symm)] at e2
      rcases k2 k e1 with e | e
      · exact h2 a c ha hc hac k e e2
      · have := hlt c hc k e2; omega
    · rw [upd3_ne Ss S' hai] at e1
      by_cases hci : c = i
      · subst hci
        rw [upd3_at] at e2
        rcases k2 k e2 with e | e
        · exact h2 a c ha hc hac k e1 e
        · have := hlt a ha k e1; omega
      · rw [upd3_ne Ss S' hci] at e2
        exact h2 a c ha hc hac k e1 e2
  · obtain ⟨j, hj, e⟩ := hk
    by_cases hji : j = i
    · subst hji
      rw [upd3_at] at e
      exact (k2 k e).imp (fun e => (h3 k).2 ⟨j, hj, e⟩) id
    · rw [upd3_ne Ss S' hji] at e
      exact .inl ((h3 k).2 ⟨j, hj, e⟩)
theorem Many.op {f : FuncId} {args : Array Value} {Q : Ending → World → Prop} {i : Nat} (h : (Many Y N bs ns).p S w) (hi : i < N) {x : α} (hop : ∀ S', (Y (bs i) (ns i)).p S' w → Calls P f args w fun e w' => Q e w' ∧ Turn (Y (bs i) x) S' w w') :
    Calls P f args w fun e w' => Q e w' ∧ Turn (Many Y N bs (upd3 ns i x)) S w w' := by
  obtain ⟨Ss, h1, h2, h3⟩ := h
  exact (hop (Ss i) (h1 i hi)).mono fun _ _ ⟨hq, ht⟩ => ⟨hq, Many.turn hi h1 h2 h3 ht⟩
theorem Many.op2 {f : FuncId} {args : Array Value} {Q : Ending → World → Prop} {i j : Nat} (h : (Many Y N bs ns).p S w) (hi : i < N) (hj : j < N) (hij : i ≠ j) {x : α} (hop : ∀ S' T', (Y (bs i) (ns i)).p S' w → (Y (bs j) (ns j)).p T' w → (∀ k, S' k → ¬ T' k) → Calls P f args w fun e w' => Q e w' ∧ Turn (Y (bs i) x) S' w w') :
    Calls P f args w fun e w' => Q e w' ∧ Turn (Many Y N bs (upd3 ns i x)) S w w' := by
  obtain ⟨Ss, h1, h2, h3⟩ := h
  exact (hop (Ss i) (Ss j) (h1 i hi) (h1 j hj) (h2 i j hi hj hij)).mono fun _ _ ⟨hq, ht⟩ => ⟨hq, Many.turn hi h1 h2 h3 ht⟩
theorem Many.ask {f : FuncId} {args : Array Value} {Q : Ending → World → Prop} {i : Nat} (h : (Many Y N bs ns).p S w) (hi : i < N) (hop : ∀ S', (Y (bs i) (ns i)).p S' w → Calls P f args w fun e w' => Q e w' ∧ Below w.heap.size w w') :
    Calls P f args w fun e w' => Q e w' ∧ Below w.heap.size w w' := by
  obtain ⟨Ss, h1, _⟩ := h
  exact hop (Ss i) (h1 i hi)
/-- a call on one of three that tells a row -/
theorem Many.told {f : FuncId} {args : Array Value} {Q : Ending → World → Option Addr → Nat → Nat → Prop} {i : Nat} (h : (Many Y N bs ns).p S w) (hi : i < N) {x : α} (hop : ∀ S', (Y (bs i) (ns i)).p S' w → Calls P f args w fun e w' => ∃ A m d, Q e w' A m d ∧ Told1 (Y (bs i) x) S' A w w') :
    Calls P f args w fun e w' => ∃ A m d, Q e w' A m d ∧ Told1 (Many Y N bs (upd3 ns i x)) S A w w' := by
  obtain ⟨Ss, h1, h2, h3⟩ := h
  refine (hop (Ss i) (h1 i hi)).mono fun e w' ⟨A, m, d, hq, ⟨S', k1, k2, k4⟩, ko⟩ => ⟨A, m, d, hq, ?_⟩
  have hlt : ∀ j, j < N → ∀ k, Ss j k → k < w.heap.size := fun j hj k hk => (Y (bs j) (ns j)).lt (h1 j hj) k hk
  refine ⟨⟨fun k => ∃ j, j < N ∧ (upd3 Ss i S') j k, ⟨upd3 Ss i S', fun j hj => ?_, fun a c ha hc hac k e1 e2 => ?_, fun _ => Iff.rfl⟩, fun k hk => ?_, fun ad hA => ⟨(k4 ad hA).1, (k4 ad hA).2.1, ?_⟩⟩, ko.wide fun k hk => (h3 k).2 ⟨i, hi, hk⟩⟩
  · by_cases hji : j = i
    · subst hji
      rw [upd3_at, upd3_at]
      exact k1
    · rw [upd3_ne ns x hji, upd3_ne Ss S' hji]
      exact Thing.off (h1 j hj) ko fun k e1 e2 => h2 j i hj hi hji k e1 e2
  · by_cases hai : a = i
    · subst hai
      rw [upd3_at] at e1
      rw [upd3_ne Ss S' (fun e => hac e.symm)] at e2
      rcases k2 k e1 with e | e
      · exact h2 a c ha hc hac k e e2
      · have := hlt c hc k e2; omega
    · rw [upd3_ne Ss S' hai] at e1
      by_cases hci : c = i
      · subst hci
        rw [upd3_at] at e2
        rcases k2 k e2 with e | e
        · exact h2 a c ha hc hac k e1 e
        · have := hlt a ha k e1; omega
      · rw [upd3_ne Ss S' hci] at e2
        exact h2 a c ha hc hac k e1 e2
  · obtain ⟨j, hj, e⟩ := hk
    by_cases hji : j = i
    · subst hji
      rw [upd3_at] at e
      exact (k2 k e).imp (fun e => (h3 k).2 ⟨j, hj, e⟩) id
    · rw [upd3_ne Ss S' hji] at e
      exact .inl ((h3 k).2 ⟨j, hj, e⟩)
  · rintro ⟨j, hj, e⟩
    by_cases hji : j = i
    · subst hji
      rw [upd3_at] at e
      exact (k4 ad hA).2.2 e
    · rw [upd3_ne Ss S' hji] at e
      have := hlt j hj _ e
      have := (k4 ad hA).1
      omega
/-- one more, that a call made -/
theorem Many.more {x : α} {b : Nat} {T : Nat → Prop} (h : (Many Y N bs ns).p S w) (hx : (Y b x).p T w') (hT : ∀ k, T k → w.heap.size ≤ k) (hb : Below w.heap.size w w') : (Many Y (N + 1) (upd3 bs N b) (upd3 ns N x)).p (fun k => S k ∨ T k) w' := by
  obtain ⟨Ss, h1, h2, h3⟩ := h
  have hlt : ∀ j, j < N → ∀ k, Ss j k → k < w.heap.size := fun j hj k hk => (Y (bs j) (ns j)).lt (h1 j hj) k hk
  refine ⟨upd3 Ss N T, fun i hi => ?_, fun i j hi hj hij k e1 e2 => ?_, fun k => ?_⟩
  · by_cases hN : i = N
    · subst hN; rw [upd3_at, upd3_at, upd3_at]; exact hx
    · rw [upd3_ne _ _ hN, upd3_ne _ _ hN, upd3_ne _ _ hN]
      exact Thing.next (h1 i (by omega)) hb
  · by_cases hN : i = N
    · subst hN
      rw [upd3_at] at e1
      rw [upd3_ne _ _ (fun e => hij e.symm)] at e2
      have := hT k e1
      have := hlt j (by omega) k e2
      omega
    · rw [upd3_ne _ _ hN] at e1
      by_cases hM : j = N
      · subst hM
        rw [upd3_at] at e2
        have := hT k e2
        have := hlt i (by omega) k e1
        omega
      · rw [upd3_ne _ _ hM] at e2
        exact h2 i j (by omega) (by omega) hij k e1 e2
  · constructor
    · rintro (hk | hk)
      · obtain ⟨i, hi, e⟩ := (h3 k).1 hk
        exact ⟨i, by omega, by rw [upd3_ne _ _ (by omega)]; exact e⟩
      · exact ⟨N, by omega, by rw [upd3_at]; exact hk⟩
    · rintro ⟨i, hi, e⟩
      by_cases hN : i = N
      · subst hN; rw [upd3_at] at e; exact .inr e
      · rw [upd3_ne _ _ hN] at e; exact .inl ((h3 k).2 ⟨i, by omega, e⟩)
theorem Many.none (w : World) : (Many Y 0 bs ns).p (fun _ => False) w := ⟨fun _ _ => False, fun _ h => absurd h (Nat.not_lt_zero _), fun _ _ h => absurd h (Nat.not_lt_zero _), fun _ => ⟨False.elim, fun ⟨_, h, _⟩ => absurd h (Nat.not_lt_zero _)⟩⟩
/-- the same, told otherwise -/
theorem Many.as {bs' : Nat → Nat} {ns' : Nat → α} (h : (Many Y N bs ns).p S w) (hb : ∀ i, i < N → bs' i = bs i) (hn : ∀ i, i < N → ns' i = ns i) : (Many Y N bs' ns').p S w := by
  obtain ⟨Ss, h1, h2, h3⟩ := h
  exact ⟨Ss, fun i hi => by rw [hb i hi, hn i hi]; exact h1 i hi, h2, h3⟩
end
end

/- The document's layer 16: a cluster in memory; Is, Run, Close, Lag: contracts. -/
section
open Go.RowKit
set_option maxRecDepth 100000

/-- texts stay behind a write into a block that holds none -/
theorem XR.pastT {u u' : World} {A : Option Addr} {m b : Nat} {ss : List ByteArray} {cs : Array Value} {t : TypeId} {fz : Nat × Nat} (h : XR u A m ss) (hb : u.heap[b]? = some (.cells cs t fz)) (hns : ∀ (i : Nat) (s : ByteArray), cs[i]? ≠ some (.string s)) (ho : Off (fun k => k = b) u u') : XR u' A m ss := by
  rcases ss with _ | ⟨s, ss⟩
  · exact ⟨h.len, .inl rfl⟩
  · refine h.off ho.size fun ad hA => ho.block _ ?_ ?_
    · obtain ⟨ad', hA', hlt, _⟩ := h.at_ (j := 0) (by simp)
      rw [hA] at hA'
      obtain rfl : ad = ad' := Option.some.inj hA'
      exact hlt
    · intro e
      obtain ⟨ad', hA', _, hc⟩ := h.at_ (j := 0) (by simp)
      rw [hA] at hA'
      obtain rfl : ad = ad' := Option.some.inj hA'
      have hh : u.heap[(ad.add 0).block]? = some (.cells cs t fz) := by rw [add_block, e]; exact hb
      unfold World.cell? at hc
      rw [hh] at hc
      dsimp only at hc
      split at hc
      · cases hc
      · exact hns _ _ hc
theorem rp0_none (i : Nat) (s : ByteArray) : (#[.int .i64 0, .int .u64 0, .int .u64 0, .slice none 0 0] : Array Value)[i]? ≠ some (.string s) := by
  match i with
  | 0 => simp
  | 1 => simp
  | 2 => simp
  | 3 => simp
  | n + 4 => simp
section
variable {b : Nat} {c : Cu} {g cap : Nat} {bs : Nat → Nat} {T S : Nat → Prop} {w w' : World} {k : Nat}
end
end

/- Layer 16: what the laws ask of the project's cluster, as one statement (to be proved of the landed code), over a thing that is the cluster. -/
section
open Go.RowKit
set_option maxRecDepth 100000

structure ClusterC (X : Nat → Cu → Thing) : Prop where
  new : ∀ (n : Int) (w : World), Lw w → 1 ≤ n → n ≤ 6 → Calls Tryz.prog 10 #[.int .i64 n] w fun e w' => ∃ b, e = .returned (.tuple #[.pointer (some ⟨b, 0, none⟩), .int .i64 0]) ∧ (∃ S, (X b (newCu n.toNat)).p S w' ∧ ∀ k, S k → w.heap.size ≤ k) ∧ Below w.heap.size w w'
  no : ∀ (n : Int) (w : World), I64n n → ¬ (1 ≤ n ∧ n ≤ 6) → Calls Tryz.prog 10 #[.int .i64 n] w fun e w' => e = .returned (.tuple #[.pointer none, .int .i64 1]) ∧ Below w.heap.size w w'
  nodes : ∀ (b : Nat) (c : Cu) (k : Nat) (S : Nat → Prop) (w : World), (X b c).p S w → CuI k c →
    Calls Tryz.prog 16 #[.pointer (some ⟨b, 0, none⟩)] w fun e w' => e = .returned (.int .i64 c.n) ∧ Below w.heap.size w w'
  newest : ∀ (b : Nat) (c : Cu) (k : Nat) (S : Nat → Prop) (w : World), (X b c).p S w → CuI k c →
    Calls Tryz.prog 15 #[.pointer (some ⟨b, 0, none⟩)] w fun e w' => e = .returned (.agg #[.int .u64 c.pm.e, .int .i64 c.pm.p, .int .u64 c.pm.c]) ∧ Below w.heap.size w w'
  promote : ∀ (b : Nat) (c : Cu) (k : Nat) (n : Int) (S : Nat → Prop) (w : World), (X b c).p S w → CuI k c → k ≤ 800 → I64n n →
    Calls Tryz.prog 30 #[.pointer (some ⟨b, 0, none⟩), .int .i64 n] w fun e w' => e = .returned (.tuple #[.agg #[.int .u64 (proCu c n).1.1.e, .int .i64 (proCu c n).1.1.p, .int .u64 (proCu c n).1.1.c], .int .i64 (proCu c n).1.2]) ∧ Turn (X b (proCu c n).2) S w w'
  copy : ∀ (b : Nat) (c : Cu) (k : Nat) (n m : Int) (S : Nat → Prop) (w : World), (X b c).p S w → CuI k c → k ≤ 800 → I64n n → I64n m →
    Calls Tryz.prog 29 #[.pointer (some ⟨b, 0, none⟩), .int .i64 n, .int .i64 m] w fun e w' => e = .returned (.int .i64 (cpyCu c n m).1) ∧ Turn (X b (cpyCu c n m).2) S w w'
  run : ∀ (b : Nat) (c : Cu) (k : Nat) (n cn e : Int) (rd : Bool) (s : ByteArray) (S : Nat → Prop) (w : World), Lw w → (X b c).p S w → CuI k c → k ≤ 800 → Sm s → I64n n → I64n cn → U64n e →
    Calls Tryz.prog 27 #[.pointer (some ⟨b, 0, none⟩), .int .i64 n, .int .i64 cn, .int .u64 e, .bool rd, .string s] w fun e' w' => ∃ A m d, e' = .returned (rpV (runCu c n cn e rd s).1 A m d) ∧ XR w' A m (runCu c n cn e rd s).1.ts ∧ Told1 (X b (runCu c n cn e rd s).2) S A w w'
  close : ∀ (b : Nat) (c : Cu) (k : Nat) (n cn : Int) (S : Nat → Prop) (w : World), (X b c).p S w → CuI k c → k ≤ 800 → I64n n → I64n cn →
    Calls Tryz.prog 31 #[.pointer (some ⟨b, 0, none⟩), .int .i64 n, .int .i64 cn] w fun e w' => e = .returned (.bool (clsCu c n cn).1) ∧ Turn (X b (clsCu c n cn).2) S w w'
  epoch : ∀ (b : Nat) (c : Cu) (k : Nat) (n : Int) (S : Nat → Prop) (w : World), (X b c).p S w → CuI k c → I64n n →
    Calls Tryz.prog 17 #[.pointer (some ⟨b, 0, none⟩), .int .i64 n] w fun e w' => e = .returned (.int .u64 (epCu c n)) ∧ Below w.heap.size w w'
  leads : ∀ (b : Nat) (c : Cu) (k : Nat) (n : Int) (S : Nat → Prop) (w : World), (X b c).p S w → CuI k c → I64n n →
    Calls Tryz.prog 18 #[.pointer (some ⟨b, 0, none⟩), .int .i64 n] w fun e w' => e = .returned (.bool (ldCu c n)) ∧ Below w.heap.size w w'
  log : ∀ (b : Nat) (c : Cu) (k : Nat) (n : Int) (S : Nat → Prop) (w : World), (X b c).p S w → CuI k c → I64n n →
    Calls Tryz.prog 21 #[.pointer (some ⟨b, 0, none⟩), .int .i64 n] w fun e w' => ∃ A m d, e = .returned (.slice A m d) ∧ m ≤ d ∧ LR w' A m (lgCu c n) ∧ Told1 (X b c) S A w w'
  lag : ∀ (b : Nat) (c : Cu) (k : Nat) (n : Int) (S : Nat → Prop) (w : World), (X b c).p S w → CuI k c → I64n n →
    Calls Tryz.prog 22 #[.pointer (some ⟨b, 0, none⟩), .int .i64 n] w fun e w' => e = .returned (.int .u64 (lagCu c n)) ∧ Turn (X b c) S w w'
end

/- The document's layer 16: a cluster in memory; Promote, Copy: contracts. -/
section
open Go.RowKit
set_option maxRecDepth 100000

theorem results_ct16 {fn : Func} {p u : Tmp} {ty : TypeId} (h : fn.results = #[.cell p ty, .tmp u]) (tmps : Array Value) (P : Program) (w : World) :
    (results fn tmps).run P w =
      ((asAddr (tmps.getD p undef)).run P w).andThen fun a w₁ => ((loadVar ty a).run P w₁).andThen fun v w₂ => .ok (.tuple #[v, tmps.getD u undef]) w₂ := by
  simp only [results, h]
  simp [Sem.run_bind, Result.andThen]
section
variable {b : Nat} {c : Cu} {g cap : Nat} {bs : Nat → Nat} {T S : Nat → Prop} {w w' : World} {k : Nat}
end
end

/- An append of one element of several cells that tells where the row lies: where it lay, or in a new block (no function of the program is named here). -/
section
open Go.RowKit
set_option maxRecDepth 100000

theorem run_append_wide {P : Program} {w : World} (t ty e : TypeId) (i : TypeInfo) (z : Value) (size bytes : Nat) (ht : P.underlying t = some (.slice e)) (hi : P.info? e = some i) (hz : i.zero = some z)
    (hsize : i.size = size) (hby : i.bytes = bytes) (hzs : z.cells.size = size) (hsz : 0 < size) {A : Option Addr} {n c : Nat} {xs : List Value} (hown : w.ownsRow 0 e size (.slice A n c) n xs) (B : Nat) (ad : Addr) (c1 : Nat) (news : List Value) (hm : news.length = size)
    (hrd : Rd w B (some ad) news) (h1 : ∀ u ∈ news, u.oneCell' = true) (hn : n + 1 ≤ 10000) (hbytes : bytes ≤ 1000) :
    ∃ A' c' w', (Builtin.append_ #[t, t] ty #[.slice A n c, .slice (some ad) 1 c1]).run P w = .ok (.slice A' (n + 1) c') w' ∧ w'.ownsRow 0 e size (.slice A' (n + 1) c') (n + 1) (xs ++ news) ∧ w.grownBy w' (Value.slice A n c).ownBlock ∧
      ((Value.slice A' (n + 1) c').ownBlock = (Value.slice A n c).ownBlock ∨ ∃ g, (Value.slice A' (n + 1) c').ownBlock = some g ∧ w.heap.size ≤ g) := by
  have hcell : ∀ j u, news[j]? = some u → w.cell? (ad.add j) = some u := fun j u hu => by
    rcases hrd with h | ⟨ad', h, _, hc⟩
    · subst h; simp at hu
    · injection h with h; subst h; exact hc j u hu
  have hb1 : (n + 1) * bytes ≤ 140737488355328 := by
    have : (n + 1) * bytes ≤ 10000 * 1000 := Nat.mul_le_mul hn hbytes
    omega
  obtain ⟨v', w', hr, h2, h3⟩ := run_append_rds (P := P) (w := w) 0 t ty e i z size bytes ht hi hz hsize hby hzs hsz (.slice A n c) n xs hown B (some ad) 1 c1 news (by omega) hrd h1 (by unfold maxLen; omega) hb1 (Nat.zero_le _)
  obtain ⟨A', c', rfl, _, _⟩ := own_form_s h2
  refine ⟨A', c', w', hr, h2, h3, ?_⟩
  rcases hown.2 with ⟨h4, h5⟩ | ⟨g, cap, cur, h4, hbg, hg, hnc, hcm, hcs, htake⟩
  · injection h4 with e1 e2 e3
    subst e1 e2 e3
    obtain ⟨v2, w2, hr2, h22, _⟩ := run_append_rds (P := P) (w := w) w.heap.size t ty e i z size bytes ht hi hz hsize hby hzs hsz (.slice none 0 0) 0 xs ⟨hown.1, .inl ⟨rfl, rfl⟩⟩ B (some ad) 1 c1 news (by omega) hrd h1 (by unfold maxLen; omega) hb1 (Nat.le_refl _)
    rw [hr] at hr2
    injection hr2 with e1 e2
    subst e1
    cases hq : (Value.slice A' (0 + 1) c').ownBlock with
    | none => exact .inl rfl
    | some g => exact .inr ⟨g, rfl, (h22.lt g hq).1⟩
  · injection h4 with e1 _ e3
    subst e1 e3
    have hs : Src P i.size t (.slice (some ad) 1 c1) 1 news w := Src.ofSlice w ht ad 1 c1 _ (by simp [hsize, hm]) hcell h1
    by_cases hroom : n + 1 ≤ c
    · have hmul : (n + 1) * size ≤ c * size := Nat.mul_le_mul_right _ hroom
      rw [Nat.add_mul, Nat.one_mul] at hmul
      have hr2 := run_append_room_src (P := P) w t t ty e i ht hi g 0 n c _ 1 news hs hroom (fun j hj => by
          have hj' : j < size := by rw [← hm]; exact hj
          rw [hsize, Nat.zero_add, cell_of_row _ _ (n * size + j) cur e (0, 0) hg, Array.getElem?_eq_getElem (by omega)]
          rfl) (fun j hj => frozen_of_row w g _ cur e hg)
      rw [hr] at hr2
      injection hr2 with e1 _
      injection e1 with e1 _ _
      subst e1
      exact .inl rfl
    · have hold : (Builtin.firstCells i.size n (.slice (some ⟨g, 0, none⟩) n c)).run P w.drew = .ok xs.toArray w.drew := run_firstCells_some _ _ _ _ _ _ _ (by rw [hown.1, hsize]) fun j u hu => hown.cells (g := g) rfl j u hu
      have hr2 := run_append_grow_src (P := P) w t t ty e i z ht hi hz (some ⟨g, 0, none⟩) n c xs hold _ 1 news hs (by omega) (by omega) (growslice_fits (by omega) (by rw [hby]; exact hb1))
      rw [hr] at hr2
      injection hr2 with e1 _
      injection e1 with e1 _ _
      subst e1
      exact .inr ⟨_, rfl, Nat.le_refl _⟩
end

/- The document's layer 16: a cluster in memory; New: contract. -/
section
open Go.RowKit
set_option maxRecDepth 100000

def ptC (bs : Nat → Nat) (n : Nat) : List Value := (List.range n).map fun i => .pointer (some ⟨bs i, 0, none⟩)
theorem ptC_at (bs : Nat → Nat) {n i : Nat} (h : i < n) : (ptC bs n)[i]? = some (.pointer (some ⟨bs i, 0, none⟩)) := by simp [ptC, h]
theorem ptC_more (bs : Nat → Nat) (n b : Nat) : ptC (upd3 bs n b) (n + 1) = ptC bs n ++ [.pointer (some ⟨b, 0, none⟩)] := by
  unfold ptC
  rw [List.range_succ, List.map_append]
  congr 1
  · exact List.map_congr_left fun i hi => by rw [upd3_ne _ _ (by have := List.mem_range.1 hi; omega)]
  · simp [upd3_at]
section
variable {W u : World} {F : World → Prop} {L : Nat → Bool}
end
theorem wp_append_run {P : Program} {o : Oper} {a : Act} {w : World} {K : Act → World → Prop} {Q : Exit → Act → World → Prop} {s x : Operand} {t : TypeId}
    (ho : o.op = .call { callee := .builtin .append, args := #[s, x], argTypes := #[t, t] }) {v y : Value} (hs : a.eval s = v) (hx : a.eval x = y) {v3 : Value} {w3 : World}
    (hrun : (Builtin.append_ #[t, t] o.type #[v, y]).run P w = .ok v3 w3) (h : K (a.put o.dst v3) w3) : o.wp P a w K Q := by
  unfold Oper.wp execOp
  simp only [ho, resolve, invoke, builtin, Sem.run_bind, Sem.run_pure, Result.andThen_ok, List.map_toArray, List.map_cons, List.map_nil, hs, hx, hrun]
  exact h
section
variable {w wr u u' : World} {cb qt ct q : Nat} {At A A5 : Option Addr} {cap c5 : Nat} {bs : Nat → Nat} {T : Nat → Prop}
end
end

/- slices.IndexFunc, slices.ContainsFunc at a token's predicate: contracts. -/
section
open Go.RowKit
set_option maxRecDepth 100000

/-- what a function of tokens answers, and leaves -/
def TokPred (g : FuncId) (p : Tok → Bool) : Prop := ∀ (t : Tk) (w : World), Calls Tryz.prog g #[.agg #[.int .i64 t.k, .string t.t]] w fun e w' => e = .returned (.bool (p t.says)) ∧ Below w.heap.size w w'

/-- the first place at which a predicate holds, or -1 -/
def firstAt (p : Tok → Bool) (l : List Tok) : Int := match l.findIdx? p with | some k => (k : Int) | none => -1
theorem firstAt_hit {p : Tok → Bool} {l : List Tok} {k : Nat} (hk : k < l.length) (h : p l[k] = true) (hno : ∀ x ∈ l.take k, p x = false) : firstAt p l = (k : Int) := by
  have : l.findIdx? p = some k := by
    rw [List.findIdx?_eq_some_iff_getElem]
    refine ⟨hk, h, fun j hj => ?_⟩
    rw [hno _ (List.mem_iff_getElem.2 ⟨j, by rw [List.length_take]; omega, by rw [List.getElem_take]⟩)]
    simp
  unfold firstAt
  rw [this]
theorem firstAt_miss {p : Tok → Bool} {l : List Tok} (hno : ∀ x ∈ l, p x = false) : firstAt p l = -1 := by
  have : l.findIdx? p = none := by
    rw [List.findIdx?_eq_none_iff]
    exact hno
  unfold firstAt
  rw [this]
theorem firstAt_any (p : Tok → Bool) (l : List Tok) : decide (0 ≤ firstAt p l) = l.any p := by
  unfold firstAt
  cases h : l.findIdx? p with
  | none =>
    rw [List.findIdx?_eq_none_iff] at h
    have : l.any p = false := by rw [List.any_eq_false]; intro x hx; rw [h x hx]; simp
    rw [this]
    rfl
  | some k =>
    rw [List.findIdx?_eq_some_iff_getElem] at h
    obtain ⟨hk, h1, _⟩ := h
    have : l.any p = true := by rw [List.any_eq_true]; exact ⟨_, List.getElem_mem hk, h1⟩
    rw [this]
    simp

theorem says_take (ts : List Tk) (k : Nat) : (saysT ts).take k = saysT (ts.take k) := by simp [saysT, List.map_take]
theorem says_at {ts : List Tk} {k : Nat} (h : k < ts.length) : (saysT ts)[k]'(by rw [saysT_length]; exact h) = ts[k].says := by simp [saysT]

set_option maxHeartbeats 400000 in
theorem indexFunc_ok (g : FuncId) (p : Tok → Bool) (hp : TokPred g p) (eg : ∀ args w, (callFunc g args).run Tryz.prog w = .ok (.enter g args) w) (A : Option Addr) (n c : Nat) (ts : List Tk) (w : World) (h : TR w A n ts) (hn : n ≤ 1000000) :
    Calls Tryz.prog 103 #[.slice A n c, .func (.func g) #[] #[]] w fun e w' => e = .returned (.int .i64 (firstAt p (saysT ts))) ∧ Below w.heap.size w w' := by
  have hlen := Lib.hid h.len
  have hP := Lib.hid hp
  clear hp
  go_enter Tryz.func103, Tryz.ntmps103
  go_wp2
  go_loopw [8] (fun i wr => ∃ k : Nat, k ≤ n ∧ i = .int .i64 k ∧ Hid (∀ x ∈ (saysT ts).take k, p x = false) ∧ Below w.heap.size w wr) (fun i _ => n - (intOf i).toNat)
  case atStart => exact ⟨0, Nat.zero_le _, rfl, Lib.hid (by simp), Below.refl _ _⟩
  case round =>
    obtain ⟨k, hk, rfl, hno, kw⟩ := hrel
    by_cases hlt : k < n
    · have hkl : k < ts.length := by rw [hlen.out]; exact hlt
      obtain ⟨ad, rfl, _, hcc⟩ := h.at_ hkl
      obtain ⟨c0, c1⟩ := hcc _ kw
      have hC := Lib.hid (hP.out ts[k] wr)
      have hks : k < (saysT ts).length := by rw [saysT_length]; exact hkl
      have hsa := says_at hkl
      clear hcc
      cases hs : p ts[k].says with
      | false =>
        have hno2 : Hid (∀ x ∈ (saysT ts).take (k + 1), p x = false) := Lib.hid (by
          rw [List.take_succ_eq_append_getElem hks]
          intro x hx
          rcases List.mem_append.1 hx with h1 | h1
          · exact hno.out x h1
          · rw [List.mem_singleton.1 h1, hsa]; exact hs)
        rw [hs] at hC
        clear hs hsa hno
        generalize ts[k].k = x at *
        generalize ts[k].t = s at *
        go_wp2_with fail
        refine hC.out.mono ?_
        rintro e w1 ⟨rfl, k1⟩
        go_wp2_with fail
        go_roundw
        case rel => exact ⟨k + 1, by omega, by go_num, hno2, kp_trans kw k1⟩
        case measure => simp [intOf]; omega
      | true =>
        have hF := firstAt_hit hks (by rw [hsa]; exact hs) hno.out
        have HF := Lib.hid hF
        rw [hs] at hC
        clear hs hsa hno hF
        generalize ts[k].k = x at *
        generalize ts[k].t = s at *
        go_wp2_with fail
        refine hC.out.mono ?_
        rintro e w1 ⟨rfl, k1⟩
        go_wp2_with fail
        go_ret
        exact ⟨by rw [HF.out]; rfl, kp_trans kw k1⟩
    · obtain rfl : k = n := by omega
      have h1 := hno.out
      rw [List.take_of_length_le (by rw [saysT_length, hlen.out]; exact Nat.le_refl _)] at h1
      have HF := Lib.hid (firstAt_miss h1)
      clear h1
      go_wp2_with fail
      go_ret
      exact ⟨by rw [HF.out]; rfl, kw⟩

theorem containsFunc_ok (g : FuncId) (p : Tok → Bool) (hp : TokPred g p) (eg : ∀ args w, (callFunc g args).run Tryz.prog w = .ok (.enter g args) w) (A : Option Addr) (n c : Nat) (ts : List Tk) (w : World) (h : TR w A n ts) (hn : n ≤ 1000000) :
    Calls Tryz.prog 72 #[.slice A n c, .func (.func g) #[] #[]] w fun e w' => e = .returned (.bool ((saysT ts).any p)) ∧ Below w.heap.size w w' := by
  have hI := Lib.hid (indexFunc_ok g p hp eg A n c ts w h hn)
  have HF := Lib.hid (firstAt_any p (saysT ts))
  generalize firstAt p (saysT ts) = r at *
  go_enter Tryz.func72, Tryz.ntmps72
  go_wp2_with fail
  refine hI.out.mono ?_
  rintro e w1 ⟨rfl, k1⟩
  go_wp2_with fail
  go_ret
  exact ⟨ret_bool (by rw [← HF.out]), k1⟩
end

/- slices.DeleteFunc at tokens: contract. -/
section
open Go.RowKit
set_option maxRecDepth 100000

theorem add_at (g j : Nat) : (⟨g, 0, none⟩ : Addr).add j = ⟨g, j, none⟩ := by
  unfold Addr.add
  split
  · rename_i h; simp_all
  · simp
theorem pair_kept {w w2 : World} {x y : Value} {t : TypeId} (k : Below (w.alloc (.cells #[x, y] t)).heap.size (w.alloc (.cells #[x, y] t)) w2) : w2.cell? ⟨w.heap.size, 0, none⟩ = some x ∧ w2.cell? ⟨w.heap.size, 1, none⟩ = some y := by
  have hb : w2.heap[w.heap.size]? = some (.cells #[x, y] t (0, 0)) := (k.block _ (by simp)).trans (heap_alloc_new w _)
  constructor
  · rw [cell_of_row _ _ 0 #[x, y] t (0, 0) hb]; rfl
  · rw [cell_of_row _ _ 1 #[x, y] t (0, 0) hb]; rfl

/-- a block's tokens, from its head, none of them frozen -/
structure RowG (w : World) (g : Nat) (us : List Tk) : Prop where
  cell : ∀ j (h : j < us.length), (w.cell? ⟨g, j * 2, none⟩ = some (.int .i64 us[j].k) ∧ w.cell? ⟨g, j * 2 + 1, none⟩ = some (.string us[j].t)) ∧ w.frozen? ⟨g, j * 2, none⟩ = false ∧ w.frozen? ⟨g, j * 2 + 1, none⟩ = false
  lt : g < w.heap.size
theorem RowG.keep {w w' : World} {g : Nat} {us : List Tk} (h : RowG w g us) (hk : w'.heap[g]? = w.heap[g]?) (hs : w.heap.size ≤ w'.heap.size) : RowG w' g us := by
  refine ⟨fun j hj => ?_, Nat.lt_of_lt_of_le h.lt hs⟩
  have hc : ∀ p : Addr, p.block = g → w'.cell? p = w.cell? p := fun p hp => World.cell?_of_block (by rw [hp]; exact hk)
  have hf : ∀ p : Addr, p.block = g → w'.frozen? p = w.frozen? p := fun p hp => by unfold World.frozen?; rw [hp, hk]
  obtain ⟨⟨c0, c1⟩, f0, f1⟩ := h.cell j hj
  exact ⟨⟨(hc _ rfl).trans c0, (hc _ rfl).trans c1⟩, (hf _ rfl).trans f0, (hf _ rfl).trans f1⟩
theorem RowG.next {w w' : World} {g : Nat} {us : List Tk} (h : RowG w g us) (hb : Below w.heap.size w w') : RowG w' g us := h.keep (hb.block g h.lt) hb.size
/-- a token is stored -/
theorem RowG.set {w : World} {g : Nat} {us : List Tk} (h : RowG w g us) (k : Nat) (t : Tk) : RowG ((w.setCell ⟨g, k * 2, none⟩ (.int .i64 t.k)).setCell ⟨g, k * 2 + 1, none⟩ (.string t.t)) g (us.set k t) := by
  refine ⟨fun j hj => ?_, by simpa [World.setCell] using h.lt⟩
  rw [List.length_set] at hj
  obtain ⟨⟨c0, c1⟩, f0, f1⟩ := h.cell j hj
  refine ⟨?_, by simpa using f0, by simpa using f1⟩
  by_cases e : k = j
  · subst e
    simp only [List.getElem_set_self]
    refine ⟨?_, ?_⟩
    · rw [World.cell?_setCell_other _ _ _ _ (by simp)]
      exact World.cell?_setCell_same _ _ _ c0
    · refine World.cell?_setCell_same _ _ _ (u := .string us[k].t) ?_
      rw [World.cell?_setCell_other _ _ _ _ (by simp)]
      exact c1
  · rw [List.getElem_set_ne e]
    refine ⟨?_, ?_⟩
    · rw [World.cell?_setCell_other _ _ _ _ (by simp; try omega), World.cell?_setCell_other _ _ _ _ (by simp; try omega)]
      exact c0
    · rw [World.cell?_setCell_other _ _ _ _ (by simp; try omega), World.cell?_setCell_other _ _ _ _ (by simp; try omega)]
      exact c1
theorem RowG.tr {w : World} {g : Nat} {us : List Tk} (h : RowG w g us) : TR w (some ⟨g, 0, none⟩) us.length us := by
  refine ⟨rfl, .inr ⟨_, rfl, h.lt, fun j u hu => ?_⟩⟩
  rw [add_at]
  have hj : j < (tkC us).length := (List.getElem?_eq_some_iff.1 hu).1
  rw [tkC_length] at hj
  have hq : j / 2 < us.length := by omega
  obtain ⟨⟨c0, c1⟩, _, _⟩ := h.cell (j / 2) hq
  obtain ⟨t0, t1⟩ := tkC_at us (j / 2) hq
  rcases Nat.mod_two_eq_zero_or_one j with e | e
  · have e2 : j / 2 * 2 = j := by omega
    rw [e2] at c0 t0
    rw [c0, ← t0, hu]
  · have e2 : j / 2 * 2 + 1 = j := by omega
    rw [e2] at c1 t1
    rw [c1, ← t1, hu]
theorem OT.rowG {e : TypeId} {w : World} {base : Nat} {A : Option Addr} {n c : Nat} {ts : List Tk} (h : OT e w base A n c ts) (hn : 0 < n) : ∃ g, A = some ⟨g, 0, none⟩ ∧ base ≤ g ∧ RowG w g ts := by
  rcases h.own.2 with ⟨_, h0⟩ | ⟨g, cap, cur, hv, hg, hh, _, _, hs, hx⟩
  · omega
  · injection hv with hA
    refine ⟨g, hA, hg, fun j hj => ?_, (Array.getElem?_eq_some_iff.1 hh).1⟩
    obtain ⟨t0, t1⟩ := tkC_at ts j hj
    rw [← hx] at t0 t1
    have hlen := h.len
    rw [List.getElem?_take_of_lt (by omega), Array.getElem?_toList] at t0 t1
    refine ⟨⟨?_, ?_⟩, ?_, ?_⟩
    · rw [cell_of_row _ _ _ cur e (0, 0) hh]; exact t0
    · rw [cell_of_row _ _ _ cur e (0, 0) hh]; exact t1
    · unfold World.frozen?
      simp [hh]
    · unfold World.frozen?
      simp [hh]

theorem below_cells {base g : Nat} {w : World} : ∀ (vs : List Value) {w1 : World} (o : Nat), Below base w w1 → base ≤ g → Below base w (w1.setCells g o vs)
  | [], _, _, h, _ => h
  | v :: r, _, o, h, hg => by
    rw [World.setCells]
    exact below_cells r (o + 1) (h.setCell hg v) hg
theorem TR.cleared {w : World} {g k : Nat} {us : List Tk} (h : TR w (some ⟨g, 0, none⟩) k us) (vs : List Value) : TR (w.setCells g (k * 2) vs) (some ⟨g, 0, none⟩) k us := by
  refine ⟨h.len, ?_⟩
  have hs := (below_cells (base := 0) vs (k * 2) (Below.refl 0 w) (Nat.zero_le g)).size
  rcases h.rd with h0 | ⟨ad, hA, hb, hc⟩
  · exact .inl h0
  · injection hA with hA
    subst hA
    refine .inr ⟨_, rfl, Nat.lt_of_lt_of_le hb hs, fun j u hu => ?_⟩
    have hj : j < (tkC us).length := (List.getElem?_eq_some_iff.1 hu).1
    rw [tkC_length, h.len] at hj
    rw [← hc j u hu, add_at]
    exact World.cell?_setCells_out g vs (k * 2) w ⟨g, j, none⟩ fun _ _ => .inl hj

/-- 'clear' at tokens -/
theorem run_clear_toks (w : World) (ty : TypeId) (b o n c : Nat) (hn : 0 < n) (hc : ∀ j, j < n * 2 → (w.cell? ⟨b, o + j, none⟩).isSome = true) (hf : ∀ j, j < n * 2 → w.frozen? ⟨b, o + j, none⟩ = false) :
    ∃ vs : List Value, vs.length = n * 2 ∧ (Builtin.clear_ #[119] ty #[.slice (some ⟨b, o, none⟩) n c]).run Tryz.prog w = .ok (.tuple #[]) (w.setCells b o vs) := by
  have hv : ∀ w, (zeroValue 142).run Tryz.prog w = .ok (.agg #[.int .i64 0, .string ⟨#[]⟩]) w := fun _ => by kernel_rfl
  have hz : (Value.agg #[.int .i64 0, .string ⟨#[]⟩]).cells = #[.int .i64 0, .string ⟨#[]⟩] := rfl
  have hl : (Builtin.zeroCells (Value.agg #[.int .i64 0, .string ⟨#[]⟩]).cells n).toList.length = n * 2 := by
    rw [hz]
    simp [Builtin.zeroCells]
  have h1 : ∀ v ∈ (Builtin.zeroCells (Value.agg #[.int .i64 0, .string ⟨#[]⟩]).cells n).toList, v.oneCell' = true := by
    intro v hv'
    rw [hz] at hv'
    simp only [Builtin.zeroCells, Array.toList_map, List.mem_map] at hv'
    obtain ⟨i, _, rfl⟩ := hv'
    have : i % 2 = 0 ∨ i % 2 = 1 := by omega
    rcases this with e | e <;> simp [e, Value.oneCell']
  generalize (Value.agg #[.int .i64 0, .string ⟨#[]⟩]) = z at hv hl h1
  refine ⟨_, hl, ?_⟩
  have hst := run_storeCells_cells (P := Tryz.prog) b o (Builtin.zeroCells z.cells n).toList 0 w (by rw [hl]; simpa using hc) (by rw [hl]; simpa using hf) h1
  simp only [Nat.add_zero] at hst
  clear hl h1
  obtain ⟨m, rfl⟩ : ∃ m, n = m + 1 := ⟨n - 1, by omega⟩
  simp [Builtin.clear_, run_underlying Tryz.underlying119, hv, hst]

theorem firstAt_cases (p : Tok → Bool) (l : List Tok) : (firstAt p l = -1 ∧ l.filter (fun t => !p t) = l) ∨ ∃ k : Nat, firstAt p l = (k : Int) ∧ k < l.length ∧ (l.take (k + 1)).filter (fun t => !p t) = l.take k := by
  unfold firstAt
  cases h : l.findIdx? p with
  | none =>
    rw [List.findIdx?_eq_none_iff] at h
    exact .inl ⟨rfl, List.filter_eq_self.2 fun x hx => by rw [h x hx]; rfl⟩
  | some k =>
    rw [List.findIdx?_eq_some_iff_getElem] at h
    obtain ⟨hk, h1, h2⟩ := h
    refine .inr ⟨k, rfl, hk, ?_⟩
    rw [List.take_succ_eq_append_getElem hk, List.filter_append]
    have e1 : [l[k]].filter (fun t => !p t) = [] := by simp [h1]
    rw [e1, List.append_nil]
    refine List.filter_eq_self.2 fun x hx => ?_
    obtain ⟨j, hj, rfl⟩ := List.mem_iff_getElem.1 hx
    rw [List.length_take] at hj
    rw [List.getElem_take]
    have := h2 j (by omega)
    simpa using this

set_option maxHeartbeats 1000000 in
theorem deleteFunc_ok (g : FuncId) (p : Tok → Bool) (hp : TokPred g p) (eg : ∀ args w, (callFunc g args).run Tryz.prog w = .ok (.enter g args) w) (A : Option Addr) (n c : Nat) (ts : List Tk) (w : World) (base : Nat) (h : OT 142 w base A n c ts) (hbase : base ≤ w.heap.size) (hn : n ≤ 1000000) :
    Calls Tryz.prog 81 #[.slice A n c, .func (.func g) #[] #[]] w fun e w' => ∃ (us : List Tk) (k : Nat), e = .returned (.slice A k c) ∧ TR w' A k us ∧ k ≤ n ∧ Hid (saysT us = (saysT ts).filter fun t => !p t) ∧ Below base w w' := by
  have hlen := Lib.hid h.len
  have hcap := h.cap
  have hI := Lib.hid (indexFunc_ok g p hp eg A n c ts w h.tr hn)
  have hP := Lib.hid hp
  clear hp
  rcases firstAt_cases p (saysT ts) with ⟨hF, hall⟩ | ⟨i0, hF, hi0, hpre⟩
  · rw [hF] at hI
    have HA := Lib.hid hall.symm
    clear hF hall
    have HT := Lib.hid h
    clear h
    go_enter Tryz.func81, Tryz.ntmps81
    go_wp2_with fail
    refine hI.out.mono ?_
    rintro e w1 ⟨rfl, k1⟩
    go_wp2_with fail
    go_ret
    exact ⟨ts, n, rfl, HT.out.tr.next k1, Nat.le_refl _, HA, k1.mono hbase⟩
  · rw [hF] at hI
    rw [saysT_length] at hi0
    have hin : i0 < n := by rw [← hlen.out]; exact hi0
    obtain ⟨gb, rfl, hgb, hrow⟩ := h.rowG (by omega)
    have hst : Hid (saysT (ts.take i0) = (saysT (ts.take (i0 + 1))).filter fun t => !p t) := Lib.hid (by rw [← says_take, ← says_take, hpre])
    have hne : ((i0 : Int) == -1) = false := beq_eq_false_iff_ne.2 (by omega)
    have HR := Lib.hid hrow
    clear hF hpre h hrow
    go_enter Tryz.func81, Tryz.ntmps81
    go_wp2_with fail
    refine hI.out.mono ?_
    rintro e w1 ⟨rfl, k1⟩
    go_wp2_with fail
    go_loopw [5, 6] (fun i j wr => ∃ (k m : Nat) (us : List Tk), i = .int .i64 k ∧ j = .int .i64 m ∧ k < m ∧ m ≤ n ∧ us.length = n ∧ RowG wr gb us ∧ Hid (saysT (us.take k) = (saysT (ts.take m)).filter fun t => !p t) ∧ Hid (us.drop m = ts.drop m) ∧ Below base w wr) (fun _ j _ => n - (intOf j).toNat)
    case atStart => exact ⟨i0, i0 + 1, ts, rfl, by go_num, by omega, by omega, hlen.out, HR.out.next k1, hst, Lib.hid rfl, k1.mono hbase⟩
    case round =>
      obtain ⟨k, m, us, rfl, rfl, hkm, hm, hul, hr, hx, hd, kw⟩ := hrel
      clear hst HR
      by_cases hlt : m < n
      · have hml : m < us.length := by omega
        have hmt : m < ts.length := by rw [hlen.out]; exact hlt
        have he : us[m] = ts[m] := by
          have e1 := congrArg (fun l => l[0]?) hd.out
          simp only [List.getElem?_drop, Nat.add_zero, List.getElem?_eq_getElem hml, List.getElem?_eq_getElem hmt, Option.some.injEq] at e1
          exact e1
        obtain ⟨⟨c0, c1⟩, _, _⟩ := hr.cell m hml
        have hC := Lib.hid (hP.out us[m])
        have hd2 : Hid (us.drop (m + 1) = ts.drop (m + 1)) := Lib.hid (by
          have e1 := congrArg (fun l => l.drop 1) hd.out
          simpa only [List.drop_drop] using e1)
        have htk : (saysT (ts.take (m + 1))).filter (fun t => !p t) = (saysT (ts.take m)).filter (fun t => !p t) ++ (if p us[m].says then [] else [us[m].says]) := by
          rw [List.take_succ_eq_append_getElem hmt, saysT_append, List.filter_append, ← he]
          cases hq : p us[m].says <;> simp [saysT, hq]
        cases hq : p us[m].says with
        | true =>
          have hx2 : Hid (saysT (us.take k) = (saysT (ts.take (m + 1))).filter fun t => !p t) := Lib.hid (by rw [htk, hq, hx.out]; simp)
          rw [hq] at hC
          have HRR := Lib.hid hr
          clear hx htk hq he hd hr
          generalize us[m].k = x at *
          generalize us[m].t = s at *
          go_wp2_with fail
          refine (hC.out _).mono ?_
          rintro e w2 ⟨rfl, k2⟩
          go_wp2_with fail
          go_roundw
          case rel => exact ⟨k, m + 1, us, rfl, by go_num, by omega, by omega, hul, (HRR.out.next (kp_new _ _)).next k2, hx2, hd2, kw.trans ((kp_trans (kp_new wr (.cells #[.int .i64 x, .string s] 142)) k2).mono (Nat.le_trans hbase kw.size))⟩
          case measure => simp [intOf]; omega
        | false =>
          have hkl : k < us.length := by omega
          have hx2 : Hid (saysT ((us.set k us[m]).take (k + 1)) = (saysT (ts.take (m + 1))).filter fun t => !p t) := Lib.hid (by
            rw [htk, hq, ← hx.out, List.take_succ_eq_append_getElem (by rw [List.length_set]; exact hkl), List.getElem_set_self, saysT_append, List.take_set_of_le (Nat.le_refl _)]
            rfl)
          have hd3 : Hid ((us.set k us[m]).drop (m + 1) = ts.drop (m + 1)) := Lib.hid (by rw [List.drop_set_of_lt (by omega)]; exact hd2.out)
          have hul3 : (us.set k us[m]).length = n := by rw [List.length_set]; exact hul
          have hset : ∀ W, RowG W gb us → RowG ((W.setCell ⟨gb, k * 2, none⟩ (.int .i64 us[m].k)).setCell ⟨gb, k * 2 + 1, none⟩ (.string us[m].t)) gb (us.set k us[m]) := fun W hW => hW.set k us[m]
          rw [hq] at hC
          have HRR := Lib.hid hr
          have HST := Lib.hid hset
          clear hx htk hq he hd hr hd2 hset
          generalize us.set k us[m] = us3 at *
          generalize us[m].k = x at *
          generalize us[m].t = s at *
          go_wp2_with fail
          refine (hC.out _).mono ?_
          rintro e w2 ⟨rfl, k2⟩
          obtain ⟨d0, d1⟩ := pair_kept k2
          have hr2 := (HRR.out.next (kp_new _ _)).next k2
          obtain ⟨⟨e0, e1⟩, z0, z1⟩ := hr2.cell k hkl
          have HR2 := Lib.hid hr2
          have kw2 := kw.trans ((kp_trans (kp_new wr (.cells #[.int .i64 x, .string s] 142)) k2).mono (Nat.le_trans hbase kw.size))
          clear hr2
          go_wp2_with fail
          go_roundw
          case rel => exact ⟨k + 1, m + 1, us3, by go_num, by go_num, by omega, by omega, hul3, HST.out _ HR2.out, hx2, hd3, (kw2.setCell hgb _).setCell hgb _⟩
          case measure => simp [intOf]; omega
      · obtain rfl : m = n := by omega
        have hck : ¬ c = k := by omega
        have hcl := hr
        obtain ⟨vs, hvl, hrun⟩ := run_clear_toks wr 0 gb (k * 2) (m - k) (c - k) (by omega) (fun j hj => by
          have hq : (k * 2 + j) / 2 < us.length := by omega
          obtain ⟨⟨q0, q1⟩, _, _⟩ := hr.cell _ hq
          rcases Nat.mod_two_eq_zero_or_one j with e | e
          · rw [show (k * 2 + j) / 2 * 2 = k * 2 + j by omega] at q0
            rw [q0]; rfl
          · rw [show (k * 2 + j) / 2 * 2 + 1 = k * 2 + j by omega] at q1
            rw [q1]; rfl) (fun j hj => by
          have hq : (k * 2 + j) / 2 < us.length := by omega
          obtain ⟨_, q0, q1⟩ := hr.cell _ hq
          rcases Nat.mod_two_eq_zero_or_one j with e | e
          · rw [show (k * 2 + j) / 2 * 2 = k * 2 + j by omega] at q0
            exact q0
          · rw [show (k * 2 + j) / 2 * 2 + 1 = k * 2 + j by omega] at q1
            exact q1)
        have htr : TR (wr.setCells gb (k * 2) vs) (some ⟨gb, 0, none⟩) k (us.take k) := (hr.tr.front (by omega)).cleared vs
        have hkb : Below base w (wr.setCells gb (k * 2) vs) := below_cells vs _ kw hgb
        have hfin : Hid (saysT (us.take k) = (saysT ts).filter fun t => !p t) := Lib.hid (by rw [hx.out, List.take_of_length_le (by rw [hlen.out]; exact Nat.le_refl _)])
        have HTR := Lib.hid htr
        have HKB := Lib.hid hkb
        clear hx hd hr hcl htr hkb
        go_wp2_with fail
        go_ret
        exact ⟨us.take k, k, rfl, HTR.out, by omega, hfin, HKB.out⟩
end

/- Maps of texts to numbers, as they read. -/
section
open Go.RowKit Go.Maps Go.WideMaps
set_option maxRecDepth 100000

theorem sKey : Keyed Tryz.prog 9 := string_keyed Tryz.underlying9
theorem sZero (w : World) : (zeroValue 3).run Tryz.prog w = .ok (.int .i64 0) w := by kernel_rfl

/-- a map as it reads, of rows of a text and a number -/
def datM (L : List (List UInt8 × Int)) : DataW Unit := L.foldl (fun D p => D.put (.string p.1) (.lit (.int .i64 p.2))) (.map [])
theorem datM_push (L : List (List UInt8 × Int)) (x : List UInt8) (c : Int) : datM (L ++ [(x, c)]) = (datM L).put (.string x) (.lit (.int .i64 c)) := by simp [datM, List.foldl_append]
theorem datM_isMap (L : List (List UInt8 × Int)) : IsMap (datM L) := by
  unfold datM
  suffices h : ∀ (L : List (List UInt8 × Int)) (D : DataW Unit), IsMap D → IsMap (L.foldl (fun D p => D.put (.string p.1) (.lit (.int .i64 p.2))) D) from h L _ isMap_empty
  intro L
  induction L with
  | nil => exact fun D h => h
  | cons p r ih => exact fun D h => ih _ (h.put _ _)

def MapAt (w : World) (b : Nat) (L : List (List UInt8 × Int)) : Prop := w.ownsMap Tryz.prog 9 (plainElem Tryz.prog 3) b L.length (datM L)
theorem MapAt.keep {w w' : World} {b : Nat} {L : List (List UInt8 × Int)} (h : MapAt w b L) (hk : w'.heap[b]? = w.heap[b]?) : MapAt w' b L := by
  obtain ⟨es, clock, hb, r⟩ := h
  exact ⟨es, clock, hk.trans hb, r⟩
theorem MapAt.lt {w : World} {b : Nat} {L : List (List UInt8 × Int)} (h : MapAt w b L) : b < w.heap.size := World.ownsMap.lt h

/-- a look-up in a map -/
theorem datM_at (L : List (List UInt8 × Int)) (x : List UInt8) (z : DataW Unit) : (datM L).atKey (.string x) z = ((L.reverse.find? fun p => decide (p.1 = x)).map fun p => (.lit (.int .i64 p.2) : DataW Unit)).getD z := by
  induction h : L.reverse generalizing L with
  | nil =>
    obtain rfl : L = [] := by simpa using h
    rfl
  | cons p r ih =>
    obtain rfl : L = r.reverse ++ [p] := by rw [← List.reverse_reverse L, h]; simp
    obtain ⟨k, v⟩ := p
    rw [datM_push, List.find?_cons]
    by_cases hk : k = x
    · subst hk
      rw [atKey_put_same (datM_isMap _) (by simp [WideAt.IsKeyLit]), decide_eq_true rfl]
      rfl
    · rw [atKey_put_other (by simpa using fun e => hk e.symm), decide_eq_false hk]
      exact ih _ (by simp)
end

/- The map of the words that begin statements (firstWords of package class): contract. -/
section
open Go.RowKit Go.Maps Go.WideMaps
set_option maxRecDepth 100000

/-- what is done so far: the map as it reads, all else as it was -/
structure Laid (w0 : World) (b : Nat) (L : List (List UInt8 × Int)) (w : World) : Prop where
  map : MapAt w b L
  low : Below w0.heap.size w0 w
  new : w0.heap.size ≤ b

theorem wpList_insert {w0 : World} {b : Nat} {L : List (List UInt8 × Int)} {w : World} (hl : Laid w0 b L w) (hn : L.length < 1000) {ops : Array Oper} {rest : List Oper} {o : Oper} {a : Act} {Q : Exit → Act → World → Prop}
    (hg : o.guard = none) (m x v : Operand) (hop : o.op = Op.insert 116 m x v) (s : ByteArray) (c : Int) (hm : a.eval m = .map (some b)) (hx : a.eval x = .string s) (hv : a.eval v = .int .i64 c) (hs : s.size ≤ maxLen) (hc : (Lit.int .i64 c).wf = true)
    (hK : ∀ w', Laid w0 b (L ++ [(s.data.toList, c)]) w' → wpList Tryz.prog ops Q rest (a.put o.dst undef) w') :
    wpList Tryz.prog ops Q (o :: rest) a w := by
  refine wpList_plain hg fun K' hK' => ?_
  obtain ⟨w', hrun, r1, r2⟩ := World.ownsMap.update hl.map sKey Tryz.underlying116 (by unfold maxLen; omega) (keyOf_string_mk Tryz.underlying9 hs) (plainElem_int Tryz.underlying3 hc)
  unfold Oper.wp
  simp [execOp, hop, hm, hx, hv, hrun, Result.andThen]
  refine hK' _ _ (hK w' ⟨?_, ?_, hl.new⟩)
  · unfold MapAt
    rw [datM_push, List.length_append]
    exact r1
  · exact hl.low.grown r2 hl.low.size (fun k hk => by cases hk; exact hl.new)

set_option maxHeartbeats 2000000 in
theorem firstWords_ok (w : World) : Calls Tryz.prog 106 #[] w fun e w' => ∃ b, e = .returned (.map (some b)) ∧ Laid w b famL w' := by
  have hmm := @run_makeMap Tryz.prog
  have hl : Laid w w.heap.size [] (w.alloc (.map #[] 0)) := ⟨World.ownsMap_made _ _ _ _, kp_new _ _, Nat.le_refl _⟩
  go_enter Tryz.func106, Tryz.ntmps106
  go_wp2_with (refine wpList_insert hl (by simp) rfl _ _ _ rfl _ _ rfl rfl rfl (by decide) (by decide) ?_; clear hl; intro w1 hl)
  go_ret
  exact ⟨_, rfl, hl⟩
end

/- sync.Once, one goroutine: the lock and the mark, as the library lays them: contracts. -/
section
open Go.RowKit
set_option maxRecDepth 100000

theorem raceOff (w : World) : (callFunc 187 #[]).run Tryz.prog w = .ok (.value (.tuple #[])) w := run_call_mark0 Tryz.func187 (by kernel_rfl) (by kernel_rfl) (by kernel_rfl) .disable (by kernel_rfl) w
theorem raceOn (w : World) : (callFunc 189 #[]).run Tryz.prog w = .ok (.value (.tuple #[])) w := run_call_mark0 Tryz.func189 (by kernel_rfl) (by kernel_rfl) (by kernel_rfl) .enable (by kernel_rfl) w
theorem raceGot (a : Addr) (w : World) : (callFunc 190 #[.pointer (some a)]).run Tryz.prog w = .ok (.value (.tuple #[])) w := run_call_marked Tryz.func190 (by kernel_rfl) (by kernel_rfl) (by kernel_rfl) .acquire (by kernel_rfl) a w
theorem raceGave (a : Addr) (w : World) : (callFunc 192 #[.pointer (some a)]).run Tryz.prog w = .ok (.value (.tuple #[])) w := run_call_marked Tryz.func192 (by kernel_rfl) (by kernel_rfl) (by kernel_rfl) .releaseMerge (by kernel_rfl) a w

/-- the mark is set, as a deferred call -/
theorem mark_deferred (a : Addr) (x : Value) (u : FrameMode) (w : World) (hc : w.cell? a = some x) (hz : w.frozen? a = false) :
    CallsD Tryz.prog 152 #[.pointer (some a), .bool true] u w fun e u' w' => u' = u ∧ (e = .returned (.tuple #[]) ∧ w' = w.drew.setCell a (.int .u32 1)) := by
  have hc' : w.drew.cell? a = some x := by go_simp
  have hz' : w.drew.frozen? a = false := by go_simp
  have hst := run_call_store (P := Tryz.prog) Tryz.func176 (by kernel_rfl) (by kernel_rfl) (by kernel_rfl) (by kernel_rfl) (k := .u32) (y := 1) hc' hz'
  go_enter_d Tryz.func152, Tryz.ntmps152
  go_wp2
  go_region_calls
  all_goals (go_end0; exact ⟨rfl, rfl⟩)

/-- a lock that is held is given back, as a deferred call -/
theorem give_deferred (a : Addr) (u : FrameMode) (w : World) (hc : w.cell? a = some (.int .i32 1)) (hz : w.frozen? a = false) :
    CallsD Tryz.prog 151 #[.pointer (some a)] u w fun e u' w' => u' = u ∧ (e = .returned (.tuple #[]) ∧ w' = w.setCell a (.int .i32 0)) := by
  have hd := raceOff
  have he := raceOn
  have hr := raceGave
  have hadd := run_call_add (P := Tryz.prog) Tryz.func193 (by kernel_rfl) (by kernel_rfl) (by kernel_rfl) .i32 (by kernel_rfl) (y := -1) (s := 0) hc hz (by simp [go_sem]; rfl)
  have hcv := run_convert_to_unsafe (P := Tryz.prog) (src := 261) (dst := 238) Tryz.underlying261 Tryz.underlying238 (by kernel_rfl) hc
  go_enter_d Tryz.func151, Tryz.ntmps151
  go_wp2
  go_end0
  go_wp2
  go_end0
  exact ⟨rfl, rfl⟩

/-- a lock that is free is taken -/
theorem take_free (a : Addr) (w : World) (hc : w.cell? a = some (.int .i32 0)) (hz : w.frozen? a = false) :
    Calls Tryz.prog 150 #[.pointer (some a)] w fun e w' => e = .returned (.tuple #[]) ∧ w' = w.setCell a (.int .i32 1) := by
  have hd := raceOff
  have he := raceOn
  have ha := raceGot
  have hcas := run_call_cas_hit (P := Tryz.prog) Tryz.func188 (by kernel_rfl) (by kernel_rfl) (by kernel_rfl) .i32 (by kernel_rfl) (y := 1) hc hz
  have hc' : (w.setCell a (.int .i32 1)).cell? a = some (.int .i32 1) := World.cell?_setCell_same w a _ hc
  have hcv := run_convert_to_unsafe (P := Tryz.prog) (src := 261) (dst := 238) Tryz.underlying261 Tryz.underlying238 (by kernel_rfl) hc'
  go_enter Tryz.func150, Tryz.ntmps150
  go_wp2
  first | go_end0 | (simp only [Exit.inBlock, Exit.then]; refine bodyPost_ret (results_none rfl _ _ _) rfl ?_) | refine bodyPost_ret (results_none rfl _ _ _) rfl ?_
  go_wp2
  go_end0
  exact ⟨rfl, rfl⟩

/-- the mark is asked -/
theorem asked (a : Addr) (d : Int) (w : World) (h : w.cell? a = some (.int .u32 d)) : Calls Tryz.prog 123 #[.pointer (some a)] w fun e w' => e = .returned (.bool (d != 0)) ∧ w = w' := by
  have hl := run_call_load (P := Tryz.prog) Tryz.func149 (by kernel_rfl) (by kernel_rfl) (by kernel_rfl) .u32 (by kernel_rfl) h
  go_enter Tryz.func123, Tryz.ntmps123
  go_wp2
  go_ret
  exact ⟨rfl, rfl⟩
end

/- A Classer in memory; its words, made once: contracts. -/
section
open Go.RowKit
set_option maxRecDepth 100000

/-- a Classer's cells: the mark, the lock, the lock's own, the words -/
def Cls (w : World) (b : Nat) (c0 c1 c2 c3 : Value) : Prop := w.heap[b]? = some (.cells #[c0, c1, c2, c3] 118 (0, 0))
section
variable {w : World} {b : Nat} {c0 c1 c2 c3 : Value}
theorem Cls.lt (h : Cls w b c0 c1 c2 c3) : b < w.heap.size := (Array.getElem?_eq_some_iff.1 h).1
theorem Cls.keep {w' : World} (h : Cls w b c0 c1 c2 c3) (hk : w'.heap[b]? = w.heap[b]?) : Cls w' b c0 c1 c2 c3 := hk.trans h
theorem Cls.next {w' : World} (h : Cls w b c0 c1 c2 c3) (hb : Below w.heap.size w w') : Cls w' b c0 c1 c2 c3 := h.keep (hb.block b h.lt)
theorem Cls.cells (h : Cls w b c0 c1 c2 c3) : w.cell? ⟨b, 0, none⟩ = some c0 ∧ w.cell? ⟨b, 1, none⟩ = some c1 ∧ w.cell? ⟨b, 2, none⟩ = some c2 ∧ w.cell? ⟨b, 3, none⟩ = some c3 := by
  refine ⟨?_, ?_, ?_, ?_⟩
  · rw [cell_of_row _ _ 0 _ _ (0, 0) h]; rfl
  · rw [cell_of_row _ _ 1 _ _ (0, 0) h]; rfl
  · rw [cell_of_row _ _ 2 _ _ (0, 0) h]; rfl
  · rw [cell_of_row _ _ 3 _ _ (0, 0) h]; rfl
theorem Cls.thaw (h : Cls w b c0 c1 c2 c3) (k : Nat) : w.frozen? ⟨b, k, none⟩ = false := by
  unfold Cls at h
  unfold World.frozen?
  simp [h]
theorem Cls.set0 (h : Cls w b c0 c1 c2 c3) (u : Value) : Cls (w.setCell ⟨b, 0, none⟩ u) b u c1 c2 c3 := by unfold Cls at *; simp [World.setCell, Array.getElem?_modify, h]
theorem Cls.set1 (h : Cls w b c0 c1 c2 c3) (u : Value) : Cls (w.setCell ⟨b, 1, none⟩ u) b c0 u c2 c3 := by unfold Cls at *; simp [World.setCell, Array.getElem?_modify, h]
theorem Cls.set3 (h : Cls w b c0 c1 c2 c3) (u : Value) : Cls (w.setCell ⟨b, 3, none⟩ u) b c0 c1 c2 u := by unfold Cls at *; simp [World.setCell, Array.getElem?_modify, h]
end

set_option maxHeartbeats 1000000 in
theorem closure_ok (b : Nat) (pl : Addr) (c0 c1 c2 c3 : Value) (w : World) (h : Cls w b c0 c1 c2 c3) (hp : w.cell? pl = some (.pointer (some ⟨b, 0, none⟩))) (hpl : pl.block < w.heap.size) :
    Calls Tryz.prog 105 #[.pointer (some pl)] w fun e w' => e = .returned (.tuple #[]) ∧ ∃ bm w1, Laid w.drew bm famL w1 ∧ w' = w1.setCell ⟨b, 3, none⟩ (.map (some bm)) := by
  have hc := h.cells.2.2.2
  have hz := h.thaw 3
  have hp' : w.drew.cell? pl = some (.pointer (some ⟨b, 0, none⟩)) := by go_simp
  have hc' : w.drew.cell? ⟨b, 3, none⟩ = some c3 := by go_simp
  have hz' : w.drew.frozen? ⟨b, 3, none⟩ = false := by go_simp
  have HC := Lib.hid h
  have HPL := Lib.hid hpl
  clear hpl h
  go_enter Tryz.func105, Tryz.ntmps105
  go_wp2
  go_region_with (go_at_call 106; refine (firstWords_ok _).mono ?_; rintro e w1 ⟨bm, rfl, hl⟩; have p1 := (hl.low.cell HPL.out).trans hp'; have q1 := (HC.out.keep (hl.low.block b HC.out.lt)).cells.2.2.2; have z1 := (HC.out.keep (hl.low.block b HC.out.lt)).thaw 3; have HL := Lib.hid hl; clear hl)
  all_goals
    go_wp2
    go_end0
    exact ⟨rfl, _, _, HL.out, rfl⟩

/-- what is left by making the words -/
structure Made (w : World) (b bm : Nat) (x : Value) (w' : World) : Prop where
  cls : Cls w' b (.int .u32 1) (.int .i32 0) x (.map (some bm))
  map : MapAt w' bm famL
  ne : bm ≠ b
  bel : Bel b w w'
end

/- A Classer asked for its words: Do, families, New, Known: contracts. -/
section
open Go.RowKit Go.Maps
set_option maxRecDepth 100000

theorem MapAt.next {w w' : World} {b : Nat} {L : List (List UInt8 × Int)} (h : MapAt w b L) (hb : Below w.heap.size w w') : MapAt w' b L := h.keep (hb.block b h.lt)
end

/- classOf, explained of package class: contracts. -/
section
open Go.RowKit Go.Maps
set_option maxRecDepth 100000

theorem Rd.bel {w w' : World} {b : Nat} {A : Option Addr} {xs : List Value} (h : Rd w w.heap.size A xs) (hb : Bel b w w') (hne : ∀ ad, A = some ad → ad.block ≠ b) : Rd w' w'.heap.size A xs := by
  rcases h with h | ⟨ad, e, hlt, hc⟩
  · exact .inl h
  · exact .inr ⟨ad, e, Nat.lt_of_lt_of_le hlt hb.size, fun j u hu => (World.cell?_of_block (hb.block _ (by rw [add_block]; exact hlt) (by rw [add_block]; exact hne ad e))).trans (hc j u hu)⟩

/-- a row of tokens that is read, of another block than a Classer's -/
structure TQ (b : Nat) (w : World) (A : Option Addr) (n c : Nat) (ts : List Tk) : Prop where
  tr : TR w A n ts
  off : ∀ ad, A = some ad → ad.block ≠ b
  cap : n ≤ c
  few : n ≤ 1000000
  short : ∀ t ∈ ts, t.t.size ≤ 1000000
section
variable {b : Nat} {w w' : World} {A : Option Addr} {n c : Nat} {ts : List Tk}
theorem TQ.bel (h : TQ b w A n c ts) (hb : Bel b w w') : TQ b w' A n c ts := ⟨⟨h.tr.len, h.tr.rd.bel hb h.off⟩, h.off, h.cap, h.few, h.short⟩
theorem TQ.next (h : TQ b w A n c ts) (hb : Below w.heap.size w w') : TQ b w' A n c ts := h.bel (Bel.of b hb)
end

/-- what is behind the first one -/
theorem TQ.rest {b : Nat} {w : World} {ad : Addr} {n c : Nat} {t : Tk} {r : List Tk} (h : TQ b w (some ad) n c (t :: r)) : TQ b w (if c = 1 then some ad else some ⟨ad.block, ad.off + 2, none⟩) (n - 1) (c - 1) r := by
  have hn : r.length + 1 = n := by have := h.tr.len; simpa using this
  have hc := h.cap
  have hf := h.few
  refine ⟨⟨by omega, ?_⟩, fun ad' e => ?_, by omega, by omega, fun t ht => h.short t (List.mem_cons_of_mem _ ht)⟩
  · rcases h.tr.rd with h0 | ⟨ad', e, hb, hcc⟩
    · have := congrArg List.length h0
      rw [tkC_length] at this
      simp at this
    · injection e with e
      subst e
      by_cases h1 : c = 1
      · obtain rfl : r = [] := List.eq_nil_of_length_eq_zero (by omega)
        exact .inl rfl
      · rw [if_neg h1]
        refine .inr ⟨_, rfl, hb, fun j u hu => ?_⟩
        have e1 : (⟨ad.block, ad.off + 2, none⟩ : Addr).add j = ad.add (2 + j) := by
          rw [← add_add]
          congr 1
        rw [e1]
        refine hcc _ u ?_
        have e2 : tkC (t :: r) = t.cells ++ tkC r := by simp [tkC]
        rw [e2, List.getElem?_append_right (by simp [Tk.cells])]
        simpa [Tk.cells] using hu
  · by_cases h1 : c = 1
    · rw [if_pos h1] at e
      exact h.off ad' e
    · rw [if_neg h1] at e
      injection e with e
      subst e
      exact h.off ad rfl

/-- a look-up gives a word's family -/
theorem fam_of {x : List UInt8} {c : Int} (h : (datM famL).atKey (.string x) (.lit (.int .i64 0)) = .lit (.int .i64 c)) : c = famF x := by
  rw [datM_at] at h
  unfold famF
  cases hf : famL.reverse.find? fun p => decide (p.1 = x) with
  | none => rw [hf] at h; simp at h; simp [h]
  | some p => rw [hf] at h; simp at h; simp [h]

theorem stopPred : TokPred 73 stopF := fun t w => isStop_ok t w
theorem hintPred : TokPred 82 isHintF := fun t w => isHint_ok t w
end

/- classOf, explained, withoutHints of package class, at every row of tokens: contracts. -/
section
open Go.RowKit Go.Maps
set_option maxRecDepth 100000

theorem withoutHints_ok (A : Option Addr) (n c : Nat) (ts : List Tk) (w : World) (base : Nat) (h : OT 142 w base A n c ts) (hbase : base ≤ w.heap.size) (hn : n ≤ 1000000) :
    Calls Tryz.prog 50 #[.slice A n c] w fun e w' => ∃ (us : List Tk) (k : Nat), e = .returned (.slice A k c) ∧ TR w' A k us ∧ k ≤ n ∧ Hid (saysT us = (saysT ts).filter fun t => !isHintF t) ∧ Below base w w' := by
  have hD := Lib.hid (deleteFunc_ok _ _ hintPred (fun _ _ => rfl) A n c ts w base h hbase hn)
  clear h
  go_enter Tryz.func50, Tryz.ntmps50
  go_wp2_with fail
  refine hD.out.mono ?_
  rintro e w1 ⟨us, k, rfl, hr, hk, hs, kb⟩
  go_wp2_with fail
  go_ret
  exact ⟨us, k, rfl, hr, hk, hs, kb⟩
end

/- Class, Asks of package class: contracts. -/
section
open Go.RowKit Go.Maps
set_option maxRecDepth 100000

theorem saysT_short {ts : List Tk} {m : Nat} (h : ∀ t ∈ saysT ts, t.2.length ≤ m) : ∀ t ∈ ts, t.t.size ≤ m := fun t ht => by
  have := h t.says (List.mem_map.2 ⟨t, ht, rfl⟩)
  simpa [Tk.says, text_len] using this

theorem OT.fresh {e : TypeId} {w : World} {base : Nat} {A : Option Addr} {n c : Nat} {ts : List Tk} (h : OT e w base A n c ts) : Fresh base A := own_fresh h.own
end
end Go.Proofs.YtdhnpmagapbmhaaGreatDoor
