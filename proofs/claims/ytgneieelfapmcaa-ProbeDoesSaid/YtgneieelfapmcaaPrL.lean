/-
  Layer 13: the project's plan of probes beside the document's.
-/
import Derived.Test.YtgneieelfapmcaaPrA
import Derived.Test.YtgneieelfapmcaaPrN
namespace Go.Proofs.Ytgneieelfapmcaa
open Go.RowKit
set_option maxRecDepth 100000

theorem tickC_length (p : Pb) (now : Int) : (tickC p now).l.length = p.l.length := by
  show (runF _ _ _ _).length = _
  rw [runF_length]
  simp
theorem ansC_length (p : Pb) (i n : Int) : (ansC p i n).l.length = p.l.length := by
  unfold ansC
  cases ansB p i n with
  | false => rfl
  | true => exact List.length_modify _ _ _
theorem tickA_length {t : Int} {k : Nat} {p : Pb} (h : PrI t k p) (now : Int) : (tickA p now).length ≤ 6 := by
  have h1 := askF_length now p.last 0 (p.l.map (dropN p.la now))
  have h2 := cntF_le now (p.l.map (dropN p.la now))
  have h3 := h.len
  rw [List.length_map] at h2
  unfold tickA
  omega
theorem tickL_length {t : Int} {k : Nat} {p : Pb} (h : PrI t k p) (now : Int) : (tickL p now).length ≤ 6 := Nat.le_trans (lateF_length _ _ _ _) h.len
section
variable {X : Nat → Pb → Thing} {w0 w w' : World} {N : Nat → Prop} {b r : Nat} {p : Pb} {t now : Int} {k : Nat} {Y : Thing} {S : Nat → Prop}
/-- the document's Tick, of a plan that may be -/
theorem rtick_pri (h : (RPb r p).p S w) (hp : PrI t k p) (h1 : t ≤ now) (h2 : now ≤ 4294967296) (hk : k ≤ 1000) :
    Calls Try.prog 11 #[.pointer (some ⟨r, 0, none⟩), .int .u64 now] w fun e w' => (∃ A n c B m d, e = .returned (.tuple #[.slice A n c, .slice B m d]) ∧ AK w' A n (tickA p now) ∧ NR w' B m (tickL p now)) ∧ Turn (RPb r (tickC p now)) S w w' := by
  have ht0 := hp.t0
  refine (rtick_ok now h hp.len (by omega) (by omega) ⟨hp.la1, hp.lam⟩ ⟨hp.ev1, hp.evm⟩ hp.n0 (by have := hp.nm; omega) fun x hx => ?_).mono ?_
  · obtain ⟨j, hj, rfl⟩ := List.getElem_of_mem hx
    have := hp.at_ j hj
    exact ⟨this.a0, by have := this.at_; omega⟩
  · rintro e w' ⟨A, n, c, B, m, d, he, ha, hb, ho, hx⟩
    exact ⟨⟨A, n, c, B, m, d, he, AK.of_own ha, NR.of_own hb⟩, ⟨S, hx, fun _ h => .inl h⟩, ho⟩
theorem rans_turn (i n : Int) (h : (RPb r p).p S w) :
    Calls Try.prog 16 #[.pointer (some ⟨r, 0, none⟩), .int .i64 i, .int .u64 n] w fun e w' => e = .returned (.bool (ansB p i n)) ∧ Turn (RPb r (ansC p i n)) S w w' :=
  (rans_ok i n h).mono fun _ _ ⟨he, ho, hx⟩ => ⟨he, ⟨S, hx, fun _ h => .inl h⟩, ho⟩
theorem Duo.tickl (C : ProbeC X) (h : Duo w0 (X b p) Y N w) (hp : PrI t k p) (h1 : t ≤ now) (h2 : now ≤ 4294967296) (hk : k ≤ 1000) :
    Calls Try.prog 10 #[.pointer (some ⟨b, 0, none⟩), .int .u64 now] w fun e w' => ∃ A n c B m d, e = .returned (.tuple #[.slice A n c, .slice B m d]) ∧ AK w' A n (tickA p now) ∧ NR w' B m (tickL p now) ∧ Duo w0 (X b (tickC p now)) Y (fun k => rowB2 A B k ∨ N k) w' ∧ (∀ k, N k → w'.heap[k]? = w.heap[k]?) ∧ w.heap.size ≤ w'.heap.size := by
  obtain ⟨⟨S, T, h3, h4, h5, h6⟩, h7, h8⟩ := h
  refine (C.tick b p t now k S w h3 hp h1 h2 hk).mono ?_
  rintro e w' ⟨A, n, c, B, m, d, he, ha, hb, ⟨S', g1, g2, g4⟩, g3⟩
  have hz := h7.size
  have hT := Y.lt h4
  refine ⟨A, n, c, B, m, d, he, ha, hb, ⟨⟨S', T, g1, Thing.off h4 g3 fun k hk hk2 => h5 k hk2 hk, fun k hk hk2 => ?_, fun k hk => ?_⟩, h7.trans (g3.below (fun k hk => (h6 k (.inl hk)).1) hz), fun k hk => hk.elim (fun e => (g4 k e).2.1) fun e => Nat.lt_of_lt_of_le (h8 k e) g3.size⟩, fun k hk => g3.block k (h8 k hk) fun e => (h6 k (.inl e)).2 hk, g3.size⟩
  · rcases g2 k hk with e | e
    · exact h5 k e hk2
    · have := hT k hk2; omega
  · rcases hk with hk | hk
    · refine ⟨(g2 k hk).elim (fun e => (h6 k (.inl e)).1) fun e => by omega, fun e => e.elim (fun e => (g4 k e).2.2 hk) fun hN => (g2 k hk).elim (fun e => (h6 k (.inl e)).2 hN) fun e => by have := h8 k hN; omega⟩
    · refine ⟨(h6 k (.inr hk)).1, fun e => e.elim (fun e => by have := (g4 k e).1; have := hT k hk; omega) fun hN => (h6 k (.inr hk)).2 hN⟩
end
end Go.Proofs.Ytgneieelfapmcaa
