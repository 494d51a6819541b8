/-
  Rows of frames as they lie in memory; what the statements' own helper frames does of them.
-/
import Derived.Test.YtmohgfmknkfcaaaFrameD
import Derived.Test.YtmohgfmknkfcaaaWide
namespace Go.Proofs.Ytmohgfmknkfcaaa
open Go.RowKit

/-- a frame as it lies: its Kind, and where its Body is -/
structure Rep where
  k : UInt8
  p : Part
def Rep.cells (r : Rep) : List Value := [.int .u8 (r.k.toNat : Int), .slice r.p.A r.p.l r.p.c]
def repCells (rs : List Rep) : List Value := rs.flatMap Rep.cells
/-- what frames say -/
def Rep.says (r : Rep) : UInt8 × List UInt8 := (r.k, r.p.bs)
theorem repCells_length : ∀ rs : List Rep, (repCells rs).length = rs.length * 2
  | [] => rfl
  | r :: rs => by
    have := repCells_length rs
    simp only [repCells, List.flatMap_cons, List.length_append, List.length_cons, Rep.cells, List.length_nil] at this ⊢
    omega
theorem repCells_append (a b : List Rep) : repCells (a ++ b) = repCells a ++ repCells b := by simp [repCells]
theorem repCells_at : ∀ (rs : List Rep) (j : Nat) (h : j < rs.length), (repCells rs)[j * 2]? = some (.int .u8 (rs[j].k.toNat : Int)) ∧ (repCells rs)[j * 2 + 1]? = some (.slice rs[j].p.A rs[j].p.l rs[j].p.c)
  | [], _, h => by simp at h
  | r :: rs, 0, _ => by simp [repCells, Rep.cells]
  | r :: rs, j + 1, h => by
    have := repCells_at rs j (by simpa using h)
    have e1 : (j + 1) * 2 = j * 2 + 2 := by omega
    simp only [repCells, List.flatMap_cons] at this ⊢
    rw [e1]
    simpa [Rep.cells] using this
theorem repCells_next (rs : List Rep) (k : Nat) (h : k < rs.length) : repCells (rs.take (k + 1)) = repCells (rs.take k) ++ [.int .u8 (rs[k].k.toNat : Int), .slice rs[k].p.A rs[k].p.l rs[k].p.c] := by
  rw [List.take_succ_eq_append_getElem h, repCells_append]
  simp [repCells, Rep.cells]
theorem repCells_one (rs : List Rep) : ∀ u ∈ repCells rs, u.oneCell' = true := by
  intro u hu
  simp only [repCells, List.mem_flatMap] at hu
  obtain ⟨r, _, h⟩ := hu
  simp only [Rep.cells, List.mem_cons, List.not_mem_nil, or_false] at h
  rcases h with rfl | rfl <;> rfl

theorem Rd.of_own2 {w : World} {A : Option Addr} {xs : List Value} {base n c : Nat} {e : TypeId} (h : w.ownsRow base e 2 (.slice A n c) n xs) : Rd w w.heap.size A xs := by
  rcases h.2 with ⟨_, hn⟩ | ⟨g, cap, cur, hv, _, hg, _⟩
  · exact .inl (List.eq_nil_of_length_eq_zero (by have := h.1; omega))
  · have hA : A = some ⟨g, 0, none⟩ := by injection hv
    subst hA
    exact .inr ⟨_, rfl, (Array.getElem?_eq_some_iff.1 hg).1, h.cells (g := g) rfl⟩

/-- a row of frames that can be read -/
structure FR (w : World) (A : Option Addr) (n : Nat) (rs : List Rep) : Prop where
  len : rs.length = n
  rd : Rd w w.heap.size A (repCells rs)
  body : ∀ r ∈ rs, Sl w w.heap.size r.p.A r.p.l r.p.c r.p.bs
theorem FR.next {w w' : World} {A : Option Addr} {n : Nat} {rs : List Rep} (h : FR w A n rs) (hb : Below w.heap.size w w') : FR w' A n rs :=
  ⟨h.len, (h.rd.below hb (Nat.le_refl _)).more hb.size, fun r hr => (h.body r hr).next hb⟩
theorem FR.drew {w : World} {A : Option Addr} {n : Nat} {rs : List Rep} (h : FR w A n rs) : FR w.drew A n rs := ⟨h.len, h.rd, fun r hr => (h.body r hr).drew⟩

theorem rinfo : (Try.prog.info? 30).map (fun i => (i.zero, i.size, i.bytes)) = some (some (.agg #[.int .u8 0, .slice none 0 0]), 2, 32) := by kernel_rfl
theorem finfo : (Try.prog.info? 24).map (fun i => (i.zero, i.size, i.bytes)) = some (some (.agg #[.int .u8 0, .slice none 0 0]), 2, 32) := by kernel_rfl

set_option maxHeartbeats 400000 in
theorem frames_any (A : Option Addr) (n c : Nat) (rs : List Rep) (w : World) (h : FR w A n rs) (hn : n ≤ 100000) :
    Calls Try.prog 14 #[.slice A n c] w fun e w' => ∃ A' c', e = .returned (.slice A' n c') ∧ FR w' A' n rs ∧ Below w.heap.size w w' := by
  obtain ⟨i0, hi, hz0, hz1, hz2⟩ := info_parts rinfo
  have hlen := Lib.hid h.len
  go_enter Try.func14, Try.ntmps14
  go_wp2_with fail
  go_loopw [3, 9] (fun v i wr => ∃ k : Nat, k ≤ n ∧ i = .int .i64 k ∧ wr.ownsRow w.heap.size 30 2 v k (repCells (rs.take k)) ∧ Below w.heap.size w wr) (fun _ i _ => n - (intOf i).toNat)
  case atStart =>
    refine ⟨0, Nat.zero_le _, rfl, ?_, kp_new _ _⟩
    exact own_new_s w w.heap.size 2 30 0 [] rfl (Nat.le_refl _) (Nat.zero_le _)
  case round =>
    obtain ⟨k, hk, rfl, hown, hb⟩ := hrel
    by_cases hlt : k < n
    · have hkl : k < rs.length := by rw [hlen.out]; exact hlt
      obtain ⟨ad, rfl, hbl, hcells⟩ := h.rd.addr (by rw [repCells_length]; omega)
      have hc0 : wr.cell? (ad.add (k * 2)) = some (.int .u8 (rs[k].k.toNat : Int)) := by
        rw [hb.cell (by rw [add_block]; exact hbl)]; exact hcells _ _ (repCells_at rs k hkl).1
      have hc1 : wr.cell? ⟨(ad.add (k * 2)).block, (ad.add (k * 2)).off + 1, none⟩ = some (.slice rs[k].p.A rs[k].p.l rs[k].p.c) := by
        have e1 : (⟨(ad.add (k * 2)).block, (ad.add (k * 2)).off + 1, none⟩ : Addr) = ad.add (k * 2 + 1) := by rw [← add_add]; rfl
        rw [e1, hb.cell (by rw [add_block]; exact hbl)]; exact hcells _ _ (repCells_at rs k hkl).2
      have HN := Lib.hid (repCells_next rs k hkl)
      have hsz := hb.size
      generalize rs[k].k.toNat = x at *
      generalize rs[k].p.A = A1 at *
      generalize rs[k].p.l = l1 at *
      generalize rs[k].p.c = c1 at *
      have hsrc : ∀ X, Rd ((wr.alloc X).alloc (.cells #[.int .u8 (x : Int), .slice A1 l1 c1] 30)) (wr.heap.size + 1 + 1) (some ⟨wr.heap.size + 1, 0, none⟩) [.int .u8 (x : Int), .slice A1 l1 c1] := fun X => by
        have := Rd.new (wr.alloc X) 30 [.int .u8 (x : Int), .slice A1 l1 c1]
        simpa using this
      have HSRC := Lib.hid hsrc
      clear hcells hsrc
      go_wp2_with (at_builtin; refine wpList_append_rds rfl _ _ _ rfl w.heap.size 30 i0 _ 2 32 Try.underlying37 hi hz0 hz1 hz2 rfl (by omega) _ k _ rfl ((hown.alloc _).alloc _) _ _ _ _ [.int .u8 (x : Int), .slice A1 l1 c1] rfl rfl (HSRC.out _) (by simp [Value.oneCell']) (by unfold maxLen; omega) (by omega) (by simp; omega) ?_; intro v3 w3 hown3 hg3)
      go_roundw
      case rel => exact ⟨k + 1, by omega, by go_num, by rw [HN.out]; exact hown3, (kp_alloc (kp_alloc hb _) _).trans (below_own_s ((hown.alloc _).alloc _) hg3 (by simp; omega))⟩
      case measure => simp [intOf]; omega
    · obtain rfl : k = n := by omega
      go_wp2_with fail
      go_ret
      rw [List.take_of_length_le (by rw [hlen.out]; exact Nat.le_refl _)] at hown
      obtain ⟨A1, c1, rfl, _, _⟩ := own_form_s hown
      exact ⟨A1, c1, rfl, ⟨h.len, Rd.of_own2 hown, fun r hr => (h.body r hr).next hb⟩, hb⟩
end Go.Proofs.Ytmohgfmknkfcaaa
