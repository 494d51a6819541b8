/-
  The document's layer 4: what is written of tokens that may be: contract.
-/
import Derived.Test.YtliadhpnkgpemaaDoorAwake4
namespace Go.Proofs.YtliadhpnkgpemaaDoor
open Go.RowKit
set_option maxRecDepth 100000

theorem right_kind {k : Int} {l : List UInt8} (h : rightF k l = true) : k = 1 ∨ k = 2 ∨ k = 3 ∨ k = 4 ∨ k = 5 ∨ k = 6 := by
  unfold rightF at h
  by_cases h0 : k = 1 ∨ k = 2 ∨ k = 3 ∨ k = 4 ∨ k = 5 ∨ k = 6
  · exact h0
  · rw [if_neg (by omega), if_neg (by omega), if_neg (by omega), if_neg (by omega), if_neg (by omega)] at h
    cases h

set_option maxHeartbeats 4000000 in
theorem rwrite_ok (A : Option Addr) (n c : Nat) (ts : List Tk) (w : World) (h : TR w A n ts) (hm : sumT ts ≤ 500000) (hmay : mayF ts = true) :
    Calls Tryd.prog 16 #[.slice A n c] w fun e w' => ∃ r : ByteArray, e = .returned (.string r) ∧ r.data.toList = writeF (saysT ts) ∧ Below w.heap.size w w' := by
  have hlen := Lib.hid h.len
  have hn : n ≤ 500000 := by
    have := sumT_len ts
    have := h.len
    omega
  have HM := Lib.hid hmay
  clear hmay
  go_enter Tryd.func16, Tryd.ntmps16
  go_wp2
  go_loopw [3, 4] (fun o v wr => ∃ (k : Nat) (q : ByteArray), v = .int .i64 k ∧ k ≤ n ∧ o = .string q ∧ Hid (q.data.toList = writeF (saysT (ts.take k))) ∧ Below w.heap.size w wr) (fun _ v _ => n - (intOf v).toNat)
  case atStart => exact ⟨0, ⟨#[]⟩, rfl, Nat.zero_le _, rfl, Lib.hid rfl, Below.refl _ _⟩
  case round =>
    obtain ⟨k, q, rfl, hk, rfl, hq, kw⟩ := hrel
    by_cases hlt : k < n
    · have hkl : k < ts.length := by rw [hlen.out]; exact hlt
      obtain ⟨ad, rfl, hbl, hcells⟩ := h.at_ hkl
      obtain ⟨c0, c1⟩ := hcells wr kw
      have hsum := sumT_at hkl
      have hwl := writeF_len (ts.take k)
      have hqs : q.size ≤ 4000000 := by
        rw [← text_len, hq.out]
        omega
      have hkind := right_kind (List.all_eq_true.1 HM.out _ (List.getElem_mem hkl))
      have hnext : saysT (ts.take (k + 1)) = saysT (ts.take k) ++ [(ts[k].k, ts[k].t.data.toList)] := by
        rw [List.take_succ_eq_append_getElem hkl, saysT_append]; rfl
      have hts : ts[k].t.size ≤ 500000 := by omega
      generalize ts[k].k = kd at *
      generalize ts[k].t = tx at *
      have H0 : k = 0 → writeF (saysT (ts.take (k + 1))) = q.data.toList ++ writtenF kd tx.data.toList := fun h0 => by
        rw [hnext, hq.out]
        subst h0
        simp [saysT, writeF]
      have H1 : 0 < k → writeF (saysT (ts.take (k + 1))) = q.data.toList ++ [32] ++ writtenF kd tx.data.toList := fun h0 => by
        rw [hnext, writeF_next _ _ (by
          intro e
          have := congrArg List.length e
          rw [saysT_length, List.length_take, Nat.min_eq_left (by omega)] at this
          simp at this
          omega), hq.out]
      have W2 : (kd == 2) = true → writtenF kd tx.data.toList = quoteF 34 tx.data.toList := fun e => by
        have : kd = 2 := by simpa using e
        subst this; rfl
      have W3 : (kd == 3) = true → writtenF kd tx.data.toList = quoteF 39 tx.data.toList := fun e => by
        have : kd = 3 := by simpa using e
        subst this; rfl
      have W5 : (kd == 5) = true → writtenF kd tx.data.toList = [47, 42, 43, 32] ++ tx.data.toList ++ [32, 42, 47] := fun e => by
        have : kd = 5 := by simpa using e
        subst this
        simp [writtenF]
      have W0 : (kd == 2) = false → (kd == 3) = false → (kd == 5) = false → writtenF kd tx.data.toList = tx.data.toList := fun e2 e3 e5 => by
        have n2 : kd ≠ 2 := by simpa using e2
        have n3 : kd ≠ 3 := by simpa using e3
        have n5 : kd ≠ 5 := by simpa using e5
        unfold writtenF
        rw [if_pos (by omega)]
      have z32 : (⟨#[32]⟩ : ByteArray).size = 1 := rfl
      have zh : (⟨#[47, 42, 43, 32]⟩ : ByteArray).size = 4 := rfl
      have ze : (⟨#[32, 42, 47]⟩ : ByteArray).size = 3 := rfl
      have q1 : (q ++ ⟨#[32]⟩ : ByteArray).size ≤ 4000001 := by rw [ByteArray.size_append, z32]; omega
      have q2 : (q ++ ⟨#[47, 42, 43, 32]⟩ : ByteArray).size ≤ 4000004 := by rw [ByteArray.size_append, zh]; omega
      have q3 : (q ++ ⟨#[32]⟩ ++ ⟨#[47, 42, 43, 32]⟩ : ByteArray).size ≤ 4000005 := by rw [ByteArray.size_append, ByteArray.size_append, zh, z32]; omega
      have q4 : (q ++ ⟨#[47, 42, 43, 32]⟩ ++ tx : ByteArray).size ≤ 5000004 := by rw [ByteArray.size_append, ByteArray.size_append, zh]; omega
      have q5 : (q ++ ⟨#[32]⟩ ++ ⟨#[47, 42, 43, 32]⟩ ++ tx : ByteArray).size ≤ 5000005 := by rw [ByteArray.size_append, ByteArray.size_append, ByteArray.size_append, zh, z32]; omega
      have hD34 : ∀ u, Calls Tryd.prog 46 #[.string tx, .int .u8 34] u fun e w' => ∃ r : ByteArray, e = .returned (.string r) ∧ r.data.toList = quoteF 34 tx.data.toList ∧ Below u.heap.size u w' := fun u => doubled_ok tx 34 u (by omega)
      have hD39 : ∀ u, Calls Tryd.prog 46 #[.string tx, .int .u8 39] u fun e w' => ∃ r : ByteArray, e = .returned (.string r) ∧ r.data.toList = quoteF 39 tx.data.toList ∧ Below u.heap.size u w' := fun u => doubled_ok tx 39 u (by omega)
      have hrs : ∀ (r : ByteArray) (y : UInt8), r.data.toList = quoteF y tx.data.toList → r.size ≤ 1000002 := fun r y e => by
        have h1 := twiceF_length y tx.data.toList
        have h2 := text_len tx
        have h3 := text_len r
        rw [e] at h3
        unfold quoteF at h3
        simp at h3
        omega
      have H0 := Lib.hid H0
      have H1 := Lib.hid H1
      have W0 := Lib.hid W0
      have W2 := Lib.hid W2
      have W3 := Lib.hid W3
      have W5 := Lib.hid W5
      have HD34 := Lib.hid hD34
      have HD39 := Lib.hid hD39
      have HRS := Lib.hid hrs
      clear hcells hnext hwl hsum hq hD34 hD39 hrs hkind
      have hk4 : (kd == 2) = true ∨ ((kd == 2) = false ∧ (kd == 3) = true) ∨ ((kd == 2) = false ∧ (kd == 3) = false ∧ (kd == 5) = true) ∨ ((kd == 2) = false ∧ (kd == 3) = false ∧ (kd == 5) = false) := by
        cases (kd == 2) <;> cases (kd == 3) <;> cases (kd == 5) <;> simp
      rcases hk4 with e2 | ⟨e2, e3⟩ | ⟨e2, e3, e5⟩ | ⟨e2, e3, e5⟩
      · clear HD39
        go_wp2_with (go_at_call 46; refine (HD34.out _).mono ?_; rintro e w2 ⟨r, rfl, hr, k2⟩; have hrs := HRS.out r _ hr)
        all_goals
          go_roundw
          case rel =>
            refine ⟨k + 1, _, by go_num, by omega, rfl, Lib.hid ?_, kp_trans kw k2⟩
            first
              | rw [H1.out (by omega)]
              | rw [H0.out (by omega)]
            rw [W2.out e2]; simp only [text_add, hr, List.append_assoc]; try rfl
          case measure => simp [intOf]; omega
      · clear HD34
        go_wp2_with (go_at_call 46; refine (HD39.out _).mono ?_; rintro e w2 ⟨r, rfl, hr, k2⟩; have hrs := HRS.out r _ hr)
        all_goals
          go_roundw
          case rel =>
            refine ⟨k + 1, _, by go_num, by omega, rfl, Lib.hid ?_, kp_trans kw k2⟩
            first
              | rw [H1.out (by omega)]
              | rw [H0.out (by omega)]
            rw [W3.out e3]; simp only [text_add, hr, List.append_assoc]; try rfl
          case measure => simp [intOf]; omega
      · clear HD34 HD39
        go_wp2_with (fail)
        all_goals
          go_roundw
          case rel =>
            refine ⟨k + 1, _, by go_num, by omega, rfl, Lib.hid ?_, kw⟩
            first
              | rw [H1.out (by omega)]
              | rw [H0.out (by omega)]
            rw [W5.out e5]; simp only [text_add, List.append_assoc]; try rfl
          case measure => simp [intOf]; omega
      · clear HD34 HD39
        go_wp2_with (fail)
        all_goals
          go_roundw
          case rel =>
            refine ⟨k + 1, _, by go_num, by omega, rfl, Lib.hid ?_, kw⟩
            first
              | rw [H1.out (by omega)]
              | rw [H0.out (by omega)]
            rw [W0.out e2 e3 e5]; simp only [text_add]; try rfl
          case measure => simp [intOf]; omega
    · obtain rfl : k = n := by omega
      rw [List.take_of_length_le (by rw [hlen.out]; exact Nat.le_refl _)] at hq
      go_wp2_with fail
      go_ret
      exact ⟨q, rfl, hq.out, kw⟩
end Go.Proofs.YtliadhpnkgpemaaDoor
