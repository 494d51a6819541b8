/-
  A name or a string between its quotes: contract.
-/
import Derived.Test.YtliadhpnkgpemaaDoorLexC
namespace Go.Proofs.YtliadhpnkgpemaaDoor
open Go.RowKit
set_option maxRecDepth 100000

theorem cells2 {w : World} {b : Nat} {x y : Value} {t : TypeId} (h : w.heap[b]? = some (.cells #[x, y] t (0, 0))) :
    w.cell? ⟨b, 0, none⟩ = some x ∧ w.cell? ⟨b, 1, none⟩ = some y ∧ w.frozen? ⟨b, 0, none⟩ = false ∧ w.frozen? ⟨b, 1, none⟩ = false := by
  refine ⟨?_, ?_, ?_, ?_⟩
  · rw [cell_of_row _ _ 0 #[x, y] t (0, 0) h]; rfl
  · rw [cell_of_row _ _ 1 #[x, y] t (0, 0) h]; rfl
  · simp [World.frozen?, h]
  · simp [World.frozen?, h]
theorem alloc_pair (w : World) (o o' : Obj) : ((w.alloc o).alloc o').heap[w.heap.size]? = some o ∧ ((w.alloc o).alloc o').heap[w.heap.size + 1]? = some o' := by
  constructor
  · rw [(kp_new (w.alloc o) o').block _ (by simp)]
    exact heap_alloc_new w o
  · have := heap_alloc_new (w.alloc o) o'
    simpa using this

theorem byte_ne {a b : UInt8} (h : ¬ a = b) : ((a.toNat : Int) != (b.toNat : Int)) = true := by
  simp only [bne_iff_ne, ne_eq]
  exact fun e => h (UInt8.toNat_inj.1 (by omega))
theorem byte_eq_no {a b : UInt8} (h : ¬ a = b) : ((a.toNat : Int) == (b.toNat : Int)) = false := by
  simp only [beq_eq_false_iff_ne, ne_eq]
  exact fun e => h (UInt8.toNat_inj.1 (by omega))

/-- a token, and how many bytes it takes, as a call answers it: a zero token and 0 where there is none -/
def Ans1 (x : Option (Int × List UInt8 × Nat)) (k : Int) (r : ByteArray) (n : Nat) : Prop :=
  match x with
  | none => k = 0 ∧ r = ⟨#[]⟩ ∧ n = 0
  | some (k', t, m) => k = k' ∧ r.data.toList = t ∧ n = m

def tokV (k : Int) (r : ByteArray) : Value := .agg #[.int .i64 k, .string r]

set_option maxHeartbeats 1000000 in
theorem quoted_ok (kind : Int) (s : ByteArray) (c : UInt8) (rest : List UInt8) (w : World) (hs : s.size ≤ 1000000) (hl : s.data.toList = c :: rest) :
    Calls Tryd.prog 63 #[.int .i64 kind, .string s] w fun e w' => ∃ k r n, e = .returned (.tuple #[tokV k r, .int .i64 (n : Nat)]) ∧ Ans1 ((quotedF c rest).map fun x => (kind, x.1, x.2 + 1)) k r n ∧ Below w.heap.size w w' := by
  unfold tokV
  have hn : 0 < s.size := by rw [← text_len, hl]; simp
  have hc0 : s[0] = c := by rw [text_at s 0 hn]; simp [hl]
  have hx : quotedF c rest = quotedF c (s.data.toList.drop 1) := by rw [hl]; rfl
  rw [hx]
  generalize hR0 : quotedF c (s.data.toList.drop 1) = R
  have HR := Lib.hid hR0
  have hlen := Lib.hid (text_len s)
  clear hR0 hx hl
  go_enter Tryd.func63, Tryd.ntmps63
  go_wp2
  go_loopw [8] (fun at_ wr => ∃ (k : Nat) (done : List UInt8), at_ = .int .i64 k ∧ 1 ≤ k ∧ k ≤ s.size ∧ done.length ≤ k ∧ Bd (w.heap.size + 1) (w.heap.size + 1) done wr ∧ w.heap.size + 1 < wr.heap.size ∧ wr.heap[w.heap.size]? = some (.cells #[.int .i64 0, .string ⟨#[]⟩] 24 (0, 0)) ∧ Hid (R = (quotedF c (s.data.toList.drop k)).map fun x => (done ++ x.1, x.2 + k - 1)) ∧ Below w.heap.size w wr) (fun at_ _ => s.size - (intOf at_).toNat)
  case atStart =>
    refine ⟨1, [], rfl, Nat.le_refl _, by omega, by simp, ?_, by simp, (alloc_pair w _ _).1, Lib.hid ?_, kp_alloc (kp_new _ _) _⟩
    · have := Bd.new (w.alloc (.cells #[.int .i64 0, .string ⟨#[]⟩] 24)) (w.heap.size + 1) (by simp)
      simpa using this
    · rw [HR.out]
      cases R <;> simp
  case round =>
    obtain ⟨k, done, rfl, hk1, hks, hdl, hI, hsz, hres, hx, kw⟩ := hrel
    have HRES := Lib.hid hres
    clear hres HR
    by_cases hlt : k < s.size
    · have hkl : k < s.data.toList.length := by rw [hlen.out]; exact hlt
      have hb := text_at s k hlt
      have hd : s.data.toList.drop k = s.data.toList[k] :: s.data.toList.drop (k + 1) := List.drop_eq_getElem_cons hkl
      rw [hd] at hx
      generalize s.data.toList[k] = b at hb hd hx
      clear hd
      by_cases hbc : b = c
      · subst hbc
        by_cases h1 : k + 1 < s.size
        · have hb1 := text_at s (k + 1) h1
          have hd1 : s.data.toList.drop (k + 1) = s.data.toList[k + 1]'(by rw [hlen.out]; exact h1) :: s.data.toList.drop (k + 1 + 1) := List.drop_eq_getElem_cons _
          rw [hd1] at hx
          generalize s.data.toList[k + 1]'(by rw [hlen.out]; exact h1) = d at hb1 hd1 hx
          clear hd1
          by_cases hdb : d = b
          · subst hdb
            rw [quotedF_twice] at hx
            have hx2 : Hid (R = (quotedF d (s.data.toList.drop (k + 1 + 1))).map fun x => (done ++ [d] ++ x.1, x.2 + (k + 1 + 1) - 1)) := Lib.hid (by
              rw [hx.out]
              cases quotedF d (s.data.toList.drop (k + 1 + 1)) <;> simp
              omega)
            have hW := Lib.hid (writeByte_s (w.heap.size + 1) (w.heap.size + 1) done d wr hI (by omega) (by omega))
            clear hx hI
            go_wp2_with fail
            refine hW.out.mono ?_
            rintro e W1 ⟨rfl, hI1, b1, _⟩
            go_wp2_with fail
            go_roundw
            case rel => exact ⟨k + 1 + 1, done ++ [d], by go_num, by omega, by omega, by simp; omega, hI1, by have := b1.size; omega, (b1.block _ (Nat.lt_succ_self _)).trans HRES.out, hx2, kw.trans (b1.mono (Nat.le_succ _))⟩
            case measure => simp [intOf]; omega
          · have hR : R = some (done, k) := by rw [hx.out, quotedF_ends (by simpa using hdb)]; simp
            subst hR
            have hdb2 : ((d.toNat : Int) != (b.toNat : Int)) = true := byte_ne hdb
            have hS := Lib.hid (string_s (w.heap.size + 1) (w.heap.size + 1) done wr hI (by omega))
            clear hx hI
            go_wp2_with fail
            refine hS.out.mono ?_
            rintro e W1 ⟨r, rfl, hr, b1⟩
            obtain ⟨x0, x1, f0, f1⟩ := cells2 ((b1.block _ (Nat.lt_succ_self _)).trans HRES.out)
            go_wp2_with fail
            refine bodyPost_ret (v := .tuple #[.agg #[.int .i64 kind, .string r], .int .i64 ((k + 1 : Nat) : Int)]) ?_ rfl ⟨kind, r, k + 1, rfl, ⟨rfl, hr, rfl⟩, ?_⟩
            · rw [results_cell_tmp rfl]
              go_simp
            · exact (((kw.trans (b1.mono (Nat.le_succ _))).setCell (Nat.le_refl _) _).setCell (Nat.le_refl _) _)
        · have h2 : ((k : Int) + 1 == (s.size : Int)) = true := by simp only [beq_iff_eq]; omega
          have hR : R = some (done, k) := by
            rw [hx.out, List.drop_eq_nil_of_le (by rw [hlen.out]; omega), quotedF_ends (by simp)]; simp
          subst hR
          have hS := Lib.hid (string_s (w.heap.size + 1) (w.heap.size + 1) done wr hI (by omega))
          clear hx hI
          go_wp2_with fail
          refine hS.out.mono ?_
          rintro e W1 ⟨r, rfl, hr, b1⟩
          obtain ⟨x0, x1, f0, f1⟩ := cells2 ((b1.block _ (Nat.lt_succ_self _)).trans HRES.out)
          go_wp2_with fail
          refine bodyPost_ret (v := .tuple #[.agg #[.int .i64 kind, .string r], .int .i64 ((k + 1 : Nat) : Int)]) ?_ rfl ⟨kind, r, k + 1, rfl, ⟨rfl, hr, rfl⟩, ?_⟩
          · rw [results_cell_tmp rfl]
            go_simp
          · exact (((kw.trans (b1.mono (Nat.le_succ _))).setCell (Nat.le_refl _) _).setCell (Nat.le_refl _) _)
      · rw [quotedF_other hbc] at hx
        have hx2 : Hid (R = (quotedF c (s.data.toList.drop (k + 1))).map fun x => (done ++ [b] ++ x.1, x.2 + (k + 1) - 1)) := Lib.hid (by
          rw [hx.out]
          cases quotedF c (s.data.toList.drop (k + 1)) <;> simp)
        have hbc2 := byte_eq_no hbc
        have hW := Lib.hid (writeByte_s (w.heap.size + 1) (w.heap.size + 1) done b wr hI (by omega) (by omega))
        clear hx hI
        go_wp2_with fail
        refine hW.out.mono ?_
        rintro e W1 ⟨rfl, hI1, b1, _⟩
        go_wp2_with fail
        go_roundw
        case rel => exact ⟨k + 1, done ++ [b], by go_num, by omega, by omega, by simp; omega, hI1, by have := b1.size; omega, (b1.block _ (Nat.lt_succ_self _)).trans HRES.out, hx2, kw.trans (b1.mono (Nat.le_succ _))⟩
        case measure => simp [intOf]; omega
    · have hR : R = none := by rw [hx.out, List.drop_eq_nil_of_le (by rw [hlen.out]; omega)]; rfl
      subst hR
      clear hx
      obtain ⟨x0, x1, f0, f1⟩ := cells2 HRES.out
      go_wp2_with fail
      refine bodyPost_ret (v := .tuple #[.agg #[.int .i64 0, .string ⟨#[]⟩], .int .i64 ((0 : Nat) : Int)]) ?_ rfl ⟨0, ⟨#[]⟩, 0, rfl, ⟨rfl, rfl, rfl⟩, ?_⟩
      · rw [results_cell_tmp rfl]
        go_simp
      · exact ((kw.setCell (Nat.le_refl _) _).setCell (Nat.le_refl _) _)
end Go.Proofs.YtliadhpnkgpemaaDoor
