/-
  What is written of rows of tokens, by package lex: contract.
-/
import Derived.Test.YtliadhpnkgpemaaDoorLexI
import Derived.Shelf.Strings.MapGrows
namespace Go.Proofs.YtliadhpnkgpemaaDoor
open Go.RowKit
set_option maxRecDepth 100000

theorem Bd.next {B b : Nat} {l : List UInt8} {w w' : World} (h : Bd B b l w) (hb : Below w.heap.size w w') : Bd B b l w' :=
  Or.elim h (fun x => .inl (Lib.BuilderAtF.below x hb)) (fun x => .inr (Lib.BuilderAtF.below x hb))
theorem Bd.lt {B b : Nat} {l : List UInt8} {w : World} (h : Bd B b l w) : b < w.heap.size := by
  rcases h with ⟨_, v, hb, _⟩ | ⟨_, v, hb, _⟩
  · exact (Array.getElem?_eq_some_iff.1 hb).1
  · exact (Array.getElem?_eq_some_iff.1 hb).1
theorem Kept.cells {b k : Nat} {w w' : World} {cs : Array Value} {t : TypeId} {fz : Nat × Nat} (h : Kept b w w') (hk : w.heap[k]? = some (.cells cs t fz)) (hkb : k ≠ b) (ht : t ≠ 5) : w'.heap[k]? = some (.cells cs t fz) :=
  h k _ hk (fun e => hkb (Option.some.inj e)) (fun c fz' e => by
    simp only [Obj.cells.injEq] at e
    exact ht e.2.1)

/-- tokens' texts, each with one more byte, are so many bytes -/
def sumT (ts : List Tk) : Nat := (ts.map fun t => t.t.size + 1).sum
theorem sumT_append (a b : List Tk) : sumT (a ++ b) = sumT a + sumT b := by simp [sumT]
theorem sumT_at {ts : List Tk} {k : Nat} (h : k < ts.length) : sumT (ts.take k) + ts[k].t.size + 1 ≤ sumT ts := by
  have e : sumT ts = sumT (ts.take k) + sumT (ts.drop k) := by rw [← sumT_append, List.take_append_drop]
  rw [e, List.drop_eq_getElem_cons h]
  simp only [sumT, List.map_cons, List.sum_cons]
  omega

theorem sumT_len : ∀ ts : List Tk, ts.length ≤ sumT ts
  | [] => Nat.zero_le _
  | t :: r => by
    have := sumT_len r
    simp only [sumT, List.map_cons, List.sum_cons, List.length_cons] at this ⊢
    omega

def writeF : List (Int × List UInt8) → List UInt8
  | [] => []
  | t :: r => writtenF t.1 t.2 ++ r.flatMap fun t => 32 :: writtenF t.1 t.2
theorem writeF_next (l : List (Int × List UInt8)) (x : Int × List UInt8) (h : l ≠ []) : writeF (l ++ [x]) = writeF l ++ [32] ++ writtenF x.1 x.2 := by
  cases l with
  | nil => exact absurd rfl h
  | cons t r => simp [writeF]
theorem writeF_len : ∀ ts : List Tk, (writeF (saysT ts)).length ≤ 8 * sumT ts := by
  have key : ∀ ts : List Tk, ((saysT ts).flatMap fun t => 32 :: writtenF t.1 t.2).length ≤ 8 * sumT ts := by
    intro ts
    induction ts with
    | nil => simp [saysT, sumT]
    | cons t r ih =>
      have h1 := writtenF_length t.k t.t.data.toList
      have h2 := text_len t.t
      simp only [saysT, List.map_cons, List.flatMap_cons, List.length_append, List.length_cons, sumT, List.sum_cons, Tk.says] at ih ⊢
      omega
  intro ts
  cases ts with
  | nil => simp [saysT, writeF, sumT]
  | cons t r =>
    have h1 := writtenF_length t.k t.t.data.toList
    have h2 := text_len t.t
    have h3 := key r
    simp only [saysT, List.map_cons, writeF, List.length_append, sumT, List.sum_cons, Tk.says] at h3 ⊢
    omega

set_option maxHeartbeats 2000000 in
theorem write_ok (A : Option Addr) (n c : Nat) (ts : List Tk) (w : World) (h : TR w A n ts) (hm : sumT ts ≤ 1000000) (hL : Lw w) :
    Calls Tryd.prog 15 #[.slice A n c] w fun e w' => ∃ r : ByteArray, e = .returned (.string r) ∧ r.data.toList = writeF (saysT ts) ∧ Below w.heap.size w w' := by
  have hlen := Lib.hid h.len
  have hn : n ≤ 1000000 := by
    have := sumT_len ts
    have := h.len
    omega
  go_enter Tryd.func15, Tryd.ntmps15
  go_wp2
  go_loopw [8] (fun v8 wr => ∃ (k : Nat), v8 = .int .i64 k ∧ k ≤ n ∧ Bd w.heap.size w.heap.size (writeF (saysT (ts.take k))) wr ∧ Below w.heap.size w wr) (fun v8 _ => n - (intOf v8).toNat)
  case atStart => exact ⟨0, rfl, Nat.zero_le _, Bd.new w w.heap.size (Nat.le_refl _), kp_new _ _⟩
  case round =>
    obtain ⟨k, rfl, hk, hI, kw⟩ := hrel
    by_cases hlt : k < n
    · have hkl : k < ts.length := by rw [hlen.out]; exact hlt
      obtain ⟨ad, rfl, hbl, hcells⟩ := h.at_ hkl
      obtain ⟨c0, c1⟩ := hcells wr kw
      have hsum := sumT_at hkl
      have hwl := writeF_len (ts.take k)
      have hnext : saysT (ts.take (k + 1)) = saysT (ts.take k) ++ [(ts[k].k, ts[k].t.data.toList)] := by
        rw [List.take_succ_eq_append_getElem hkl, saysT_append]; rfl
      have hne : 0 < k → saysT (ts.take k) ≠ [] := fun h0 e => by
        have := congrArg List.length e
        rw [saysT_length, List.length_take, Nat.min_eq_left (by omega)] at this
        exact absurd this (by simp; omega)
      have HW := Lib.hid fun u (hu : Lw u) => written_ok ts[k].k ts[k].t u hu (by omega)
      generalize ts[k].k = kd at *
      generalize ts[k].t = tx at *
      generalize hwk : writeF (saysT (ts.take k)) = wk at hI hwl
      have HN := Lib.hid hnext
      have HNE := Lib.hid hne
      have HWK := Lib.hid hwk
      have hbz := hI.lt
      have hL1 := hL.next kw
      clear hcells hnext hne hwk
      have hI1 := hI.alloc (.cells #[.int .i64 kd, .string tx] 24)
      have kw1 := kp_alloc kw (.cells #[.int .i64 kd, .string tx] 24)
      have hT := heap_alloc_new wr (.cells #[.int .i64 kd, .string tx] 24)
      have hz1 : wr.heap.size < (wr.alloc (.cells #[.int .i64 kd, .string tx] 24)).heap.size := by simp
      have HT := Lib.hid hT
      have HZ := Lib.hid hz1
      clear hT hz1
      by_cases hk0 : k = 0
      · subst hk0
        have hnx : Hid (writeF (saysT (ts.take (0 + 1))) = wk ++ writtenF kd tx.data.toList) := Lib.hid (by
          rw [HN.out, ← HWK.out]
          simp [saysT, writeF])
        have e0 : ad.add (0 * 2) = ad := by unfold Addr.add; simp
        rw [e0] at c0 c1
        clear e0
        obtain ⟨f0, f1, _, _⟩ := cells2 HT.out
        go_wp2_with fail
        refine (HW.out _ (hL1.next (kp_new _ _))).mono ?_
        rintro e w2 ⟨r, rfl, hr, k2⟩
        have hrl : r.size ≤ 2 * tx.size + 7 := by
          have h1 := writtenF_length kd tx.data.toList
          have h2 := text_len tx
          have h3 := text_len r
          rw [hr] at h3
          omega
        have HS := Lib.hid (writeString_s w.heap.size w.heap.size wk r w2 (hI1.next k2) (by omega) (by omega) (by have := kw1.size; have := k2.size; omega))
        go_wp2_with fail
        refine HS.out.mono ?_
        rintro e w3 ⟨rfl, hI3, b3, _⟩
        go_wp2_with fail
        go_roundw
        case rel => exact ⟨0 + 1, by go_num, by omega, by rw [hnx.out, ← hr]; exact hI3, (kp_trans kw1 k2).trans b3⟩
        case measure => simp [intOf]; omega
      · have hnx : Hid (writeF (saysT (ts.take (k + 1))) = wk ++ [32] ++ writtenF kd tx.data.toList) := Lib.hid (by
          rw [HN.out, writeF_next _ _ (HNE.out (by omega)), HWK.out])
        have hW1 := writeByte_s w.heap.size w.heap.size wk 32 _ hI1 (by omega) (by have := kw1.size; omega)
        rw [show (((32 : UInt8).toNat : Nat) : Int) = 32 from rfl] at hW1
        have HW1 := Lib.hid hW1
        have hpos : (0 : Int) < (k : Int) := by omega
        clear hW1
        go_wp2_with fail
        refine HW1.out.mono ?_
        rintro e w2 ⟨rfl, hI2, b2, k2⟩
        obtain ⟨f0, f1, _, _⟩ := cells2 (k2.cells HT.out (by omega) (by decide))
        have kw2 := kw1.trans b2
        go_wp2_with fail
        refine (HW.out _ (hL.next kw2)).mono ?_
        rintro e w3 ⟨r, rfl, hr, k3⟩
        have hrl : r.size ≤ 2 * tx.size + 7 := by
          have h1 := writtenF_length kd tx.data.toList
          have h2 := text_len tx
          have h3 := text_len r
          rw [hr] at h3
          omega
        have HS := Lib.hid (writeString_s w.heap.size w.heap.size (wk ++ [32]) r w3 (hI2.next k3) (by simp; omega) (by omega) (by have := kw2.size; have := k3.size; omega))
        go_wp2_with fail
        refine HS.out.mono ?_
        rintro e w4 ⟨rfl, hI4, b4, _⟩
        go_wp2_with fail
        go_roundw
        case rel => exact ⟨k + 1, by go_num, by omega, by rw [hnx.out, ← hr]; exact hI4, (kp_trans kw2 k3).trans b4⟩
        case measure => simp [intOf]; omega
    · obtain rfl : k = n := by omega
      rw [List.take_of_length_le (by rw [hlen.out]; exact Nat.le_refl _)] at hI
      have HS := Lib.hid (string_s w.heap.size w.heap.size _ wr hI kw.size)
      clear hI
      go_wp2_with fail
      refine HS.out.mono ?_
      rintro e w2 ⟨r, rfl, hr, b2⟩
      go_wp2_with fail
      go_ret
      exact ⟨r, rfl, hr, kw.trans b2⟩
end Go.Proofs.YtliadhpnkgpemaaDoor
