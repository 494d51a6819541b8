/-
  The project's layer 8: At, All, Put, Take, New: contracts.
-/
import Derived.Test.YtijemohcengmjaaWaQ
import Derived.Test.YtijemohcengmjaaWaR
namespace Go.Proofs.Ytijemohcengmjaa
open Go.RowKit
set_option maxRecDepth 100000

/-- a row of the project's: who waits in it -/
def PWp (b : Nat) (m : Int) (l : List Int) (S : Nat → Prop) (w : World) : Prop :=
  ∃ r f, PRow w b r f l.length m ∧ RingAt r f l ∧ S b ∧ (∀ k, S k → k < w.heap.size) ∧ (l.length : Int) ≤ m ∧ m ≤ 12
def PW (b : Nat) (m : Int) (l : List Int) : Thing where
  p := PWp b m l
  keep := fun ⟨r, f, h1, h2, h3, h4, h5, h6⟩ hk hz => ⟨r, f, h1.of (hk b h3), h2, h3, fun k h => Nat.lt_of_lt_of_le (h4 k h) hz, h5, h6⟩
  lt := fun ⟨_, _, _, _, _, h4, _⟩ => h4

section
variable {b : Nat} {m : Int} {l : List Int} {S : Nat → Prop} {w : World}
theorem PW.at_ (h : (PW b m l).p S w) : ∃ r f, PRow w b r f l.length m ∧ RingAt r f l ∧ S b ∧ (∀ k, S k → k < w.heap.size) ∧ (l.length : Int) ≤ m ∧ m ≤ 12 := h
theorem PW.turn {w' : World} {l' r : List Int} {f : Nat} (h : (PW b m l).p S w) (hb : PRow w' b r f l'.length m) (hr : RingAt r f l') (ho : Off S w w') (hl : (l'.length : Int) ≤ m) : Turn (PW b m l') S w w' := by
  obtain ⟨_, _, _, _, h3, h4, _, h6⟩ := PW.at_ h
  exact ⟨⟨S, ⟨r, f, hb, hr, h3, fun k hk => Nat.lt_of_lt_of_le (h4 k hk) ho.size, hl, h6⟩, fun k hk => .inl hk⟩, ho⟩

set_option maxHeartbeats 2000000 in
theorem pat_ok (x : Int) (h : (PW b m l).p S w) :
    Calls Try.prog 17 #[.pointer (some ⟨b, 0, none⟩), .int .i64 x] w fun e w' => e = .returned (.int .i64 (atW x l)) ∧ w'.heap = w.heap ∧ Below w.heap.size w w' := by
  obtain ⟨r, f, hp, hr, _, _, _, _⟩ := PW.at_ h
  obtain ⟨_, c13, _⟩ := hp.cells
  have hl12 := hr.len
  have HP := Lib.hid hp
  have HX := Lib.hid hr
  clear h hp hr
  obtain ⟨n, hn⟩ : ∃ n, n = l.length := ⟨_, rfl⟩
  rw [← hn] at c13 hl12 HP
  have HN := Lib.hid hn
  clear hn
  go_enter Try.func17, Try.ntmps17
  go_wp2
  go_loopw [10] (fun i wr => ∃ k : Nat, k ≤ n ∧ i = .int .i64 k ∧ Hid (∀ j (hj : j < l.length), j < k → l[j] ≠ x) ∧ Hid (wr.heap = w.heap ∧ Below w.heap.size w wr)) (fun i _ => n - (intOf i).toNat)
  case atStart => exact ⟨0, Nat.zero_le _, rfl, Lib.hid (fun j _ h => absurd h (Nat.not_lt_zero _)), Lib.hid ⟨rfl, Below.refl _ _⟩⟩
  case round =>
    obtain ⟨k, hk, rfl, hne, hw⟩ := hrel
    by_cases hlt : k < n
    · have hkl : k < l.length := by rw [← HN.out]; exact hlt
      have HPL := Lib.hid (place_ok k (HP.out.of (by rw [hw.out.1])) HX.out.first (by omega))
      obtain ⟨hq, hg⟩ := HX.out.get hkl
      have HG := Lib.hid hg
      by_cases he : l[k] = x
      · have hp : Hid (atW x l = k) := Lib.hid (atW_at hkl hne.out he)
        have hq1 : (l[k] == x) = true := by rw [he]; simp
        clear hne
        go_wp2_with fail
        refine HPL.out.mono ?_
        rintro e w1 ⟨rfl, h1, k1⟩
        have d0 := (HP.out.of (w' := w1) (by rw [h1, hw.out.1])).ring hq
        rw [HG.out] at d0
        have HW1 := Lib.hid (show w1.heap = w.heap from h1.trans hw.out.1)
        have HK1 := Lib.hid (show Below w.heap.size w w1 from kp_trans hw.out.2 k1)
        clear h1 k1 he hg
        generalize l[k] = y at *
        go_wp2_with fail
        go_ret
        exact ⟨by rw [hp.out]; rfl, HW1.out, HK1.out⟩
      · have hne2 : Hid (∀ j (hj : j < l.length), j < k + 1 → l[j] ≠ x) := Lib.hid (fun j hj hjk => by
          by_cases h : j = k
          · subst h; exact he
          · exact hne.out j hj (by omega))
        have hq1 : (l[k] == x) = false := by simpa using he
        clear hne
        go_wp2_with fail
        refine HPL.out.mono ?_
        rintro e w1 ⟨rfl, h1, k1⟩
        have d0 := (HP.out.of (w' := w1) (by rw [h1, hw.out.1])).ring hq
        rw [HG.out] at d0
        have HW1 := Lib.hid (show w1.heap = w.heap from h1.trans hw.out.1)
        have HK1 := Lib.hid (show Below w.heap.size w w1 from kp_trans hw.out.2 k1)
        clear h1 k1 he hg
        generalize l[k] = y at *
        go_wp2_with fail
        go_roundw
        case rel => exact ⟨k + 1, by omega, by go_num, hne2, Lib.hid ⟨HW1.out, HK1.out⟩⟩
        case measure => simp [intOf]; omega
    · have hp : Hid (atW x l = -1) := Lib.hid (atW_none fun y hy => by
        obtain ⟨j, hj, rfl⟩ := List.getElem_of_mem hy
        exact hne.out j hj (by have := HN.out; omega))
      clear hne
      go_wp2_with fail
      go_ret
      exact ⟨by rw [hp.out]; rfl, hw.out.1, hw.out.2⟩

set_option maxHeartbeats 4000000 in
theorem pall_ok (h : (PW b m l).p S w) :
    Calls Try.prog 16 #[.pointer (some ⟨b, 0, none⟩)] w fun e w' => ∃ A n c, e = .returned (.slice A n c) ∧ NR w' A n l ∧ n ≤ 12 ∧ Below w.heap.size w w' := by
  obtain ⟨r, f, hp, hr, _, _, _, _⟩ := PW.at_ h
  obtain ⟨_, c13, _⟩ := hp.cells
  have hl12 := hr.len
  have HLT := Lib.hid hp.lt
  have HP := Lib.hid hp
  have HX := Lib.hid hr
  clear h hp hr
  obtain ⟨n, hn⟩ : ∃ n, n = l.length := ⟨_, rfl⟩
  rw [← hn] at c13 hl12 HP
  have HN := Lib.hid hn
  clear hn
  obtain ⟨i0, hi, hz0, hz1, hz2⟩ := info_parts intinfo8
  go_enter Try.func16, Try.ntmps16
  go_wp2_with fail
  go_loopw [3, 9] (fun o i wr => ∃ (k : Nat) (D : Option Addr) (e : Nat), k ≤ n ∧ i = .int .i64 k ∧ o = .slice D k e ∧ Hid (wr.ownsRow w.heap.size 3 1 (.slice D k e) k (ivs (l.take k))) ∧ Hid (Below w.heap.size w wr)) (fun _ i _ => n - (intOf i).toNat)
  case atStart => exact ⟨0, none, 0, Nat.zero_le _, rfl, rfl, Lib.hid (World.ownsRow_nil _ _ _ _), Lib.hid (Below.refl _ _)⟩
  case round =>
    obtain ⟨k, D, e, hk, rfl, rfl, hO, hw⟩ := hrel
    by_cases hlt : k < n
    · have hkl : k < l.length := by rw [← HN.out]; exact hlt
      have HPR : Hid (PRow wr b r f n m) := Lib.hid (HP.out.of (hw.out.block _ HLT.out))
      have HPL := Lib.hid (place_ok k HPR.out HX.out.first (by omega))
      obtain ⟨hq, hg⟩ := HX.out.get hkl
      have HG := Lib.hid hg
      have HE : Hid (ivs (l.take (k + 1)) = ivs (l.take k) ++ [.int .i64 l[k]]) := Lib.hid (by
        rw [List.take_succ_eq_append_getElem hkl, ivs_append]
        rfl)
      clear hg
      go_wp2_with fail
      refine HPL.out.mono ?_
      rintro e1 w1 ⟨rfl, h1, k1⟩
      have d0 := (HPR.out.of (w' := w1) (by rw [h1])).ring hq
      rw [HG.out] at d0
      have HZ : Hid (wr.heap.size = w1.heap.size) := Lib.hid (by rw [h1])
      have HK1 := Lib.hid k1
      have HO1 := Lib.hid ((own_below hO.out k1 (Nat.le_refl _)).alloc (.cells #[.int .i64 l[k]] 3))
      have HR1 : Hid (Rd (w1.alloc (.cells #[.int .i64 l[k]] 3)) (w1.heap.size + 1) (some ⟨w1.heap.size, 0, none⟩) [.int .i64 l[k]]) := Lib.hid (Rd.new w1 3 [.int .i64 l[k]])
      have HS1 : Hid (w.heap.size ≤ (w1.alloc (.cells #[.int .i64 l[k]] 3)).heap.size) := Lib.hid (by have := hw.out.size; have := HZ.out; simp; omega)
      have hk12 : k + 1 ≤ 12 := by omega
      have HK12 := Lib.hid hk12
      clear h1 k1
      generalize l[k] = y at *
      go_wp2_with (at_builtin; refine wpList_append_rd rfl _ _ _ rfl w.heap.size 3 i0 _ 8 Try.underlying38 hi hz0 hz1 hz2 rfl _ k _ rfl HO1.out _ _ _ _ [.int .i64 y] rfl rfl HR1.out (by simp [Value.oneCell']) (by have := HK12.out; unfold maxLen; omega) (by have := HK12.out; omega) HS1.out ?_; intro v3 w3 hown3 hg3; obtain ⟨A3, c3, rfl, _, _⟩ := own_form hown3; have HO3 := Lib.hid hown3; have HG3 := Lib.hid hg3; clear hown3 hg3)
      go_roundw
      case rel =>
        refine ⟨k + 1, A3, c3, by omega, by go_num, rfl, Lib.hid (by rw [HE.out]; exact HO3.out), Lib.hid ?_⟩
        exact (kp_alloc (kp_trans hw.out HK1.out) _).trans (below_own_s HO1.out HG3.out HS1.out)
      case measure => simp [intOf]; omega
    · obtain rfl : k = n := by omega
      have hO' := hO.out
      rw [List.take_of_length_le (by rw [← HN.out]; exact Nat.le_refl _)] at hO'
      have HO' := Lib.hid hO'
      clear hO'
      go_wp2_with fail
      go_ret
      exact ⟨D, k, e, rfl, NR.of_own HO'.out, hl12, hw.out⟩

set_option maxHeartbeats 4000000 in
theorem pput_ok (x : Int) (h : (PW b m l).p S w) :
    Calls Try.prog 9 #[.pointer (some ⟨b, 0, none⟩), .int .i64 x] w fun e w' => e = .returned (.int .i64 (putW m x l).1) ∧ Turn (PW b m (putW m x l).2) S w w' := by
  have HF := Lib.hid (pat_ok x h)
  have H := Lib.hid h
  obtain ⟨r, f, hp, hr, hS, hlt, hm, hm2⟩ := PW.at_ h
  have HP := Lib.hid hp
  have HX := Lib.hid hr
  have hpw : putW m x l = if 0 ≤ atW x l then (7, l) else if m ≤ l.length then (5, l) else (0, l ++ [x]) := rfl
  clear h hp hr
  by_cases hq : 0 ≤ atW x l
  · rw [if_pos hq] at hpw
    rw [hpw]
    clear hpw
    generalize atW x l = i at *
    go_enter Try.func9, Try.ntmps9
    go_wp2_with fail
    refine HF.out.mono ?_
    rintro e w1 ⟨rfl, h1, k1⟩
    have HK1 := Lib.hid k1
    clear h1 k1
    go_wp2_with fail
    go_ret
    exact ⟨rfl, Turn.same H.out HK1.out⟩
  · rw [if_neg hq] at hpw
    by_cases hf : m ≤ l.length
    · rw [if_pos hf] at hpw
      rw [hpw]
      have heq : (l.length : Int) = m := by omega
      clear hpw
      generalize atW x l = i at *
      go_enter Try.func9, Try.ntmps9
      go_wp2_with fail
      refine HF.out.mono ?_
      rintro e w1 ⟨rfl, h1, k1⟩
      have HK1 := Lib.hid k1
      obtain ⟨_, c13, c14⟩ := (HP.out.of (w' := w1) (by rw [h1])).cells
      have hb0 : ((l.length : Int) == m) = true := by simpa using heq
      clear h1 k1 heq hf hm
      go_wp2_with fail
      go_quiet (fail)
      go_wp2_with fail
      go_ret
      exact ⟨rfl, Turn.same H.out (kp_trans HK1.out (kp_drewN _ _))⟩
    · rw [if_neg hf] at hpw
      rw [hpw]
      have hlm : ((l ++ [x]).length : Int) ≤ m := by simp; omega
      have HLM := Lib.hid hlm
      have hl12 : l.length < 12 := by omega
      have HL12 := Lib.hid hl12
      clear hpw hlm
      obtain ⟨n, hn⟩ : ∃ n, n = l.length := ⟨_, rfl⟩
      rw [← hn] at HP hf hm hl12
      have HN := Lib.hid hn
      clear hn
      generalize atW x l = i at *
      go_enter Try.func9, Try.ntmps9
      go_wp2_with fail
      refine HF.out.mono ?_
      rintro e w1 ⟨rfl, h1, k1⟩
      have HK1 := Lib.hid k1
      have HP1 := Lib.hid (HP.out.of (w' := w1) (by rw [h1]))
      obtain ⟨_, c13, c14⟩ := HP1.out.cells
      have hb0 : ((n : Int) == m) = false := by simp; omega
      clear h1 k1 hf hm
      go_wp2_with fail
      go_quiet (fail)
      have kq : Below w.heap.size w (w1.drewN nq) := kp_trans HK1.out (kp_drewN w1 nq)
      have HKQ := Lib.hid kq
      have HPQ : Hid (PRow (w1.drewN nq) b r f n m) := Lib.hid (HP1.out.of rfl)
      clear kq c13 c14
      generalize w1.drewN nq = w2 at *
      obtain ⟨_, c13, _⟩ := HPQ.out.cells
      have HPL := Lib.hid (place_ok n HPQ.out HX.out.first (by omega))
      go_wp2_with fail
      refine HPL.out.mono ?_
      rintro e w3 ⟨rfl, h3, k3⟩
      have HP3 := Lib.hid (HPQ.out.of (w' := w3) (by rw [h3]))
      obtain ⟨q, hq2⟩ : ∃ q, q = (f + n) % 12 := ⟨_, rfl⟩
      have hq12 : q < 12 := by omega
      have HP4 := Lib.hid (HP3.out.setRing hq12 x)
      have HP5 := Lib.hid (HP4.out.setCount (n + 1))
      have f3 := HP3.out.froz q
      obtain ⟨z3, e3⟩ : ∃ z, w3.cell? ⟨b, q, none⟩ = some (.int .i64 z) := ⟨_, HP3.out.ring (by rw [HP3.out.size]; exact hq12)⟩
      obtain ⟨_, d13, _⟩ := HP4.out.cells
      have f4 := HP4.out.froz 13
      have hwr : IntKind.i64.wrap ((n : Int) + 1) = ((n + 1 : Nat) : Int) := by rw [IntKind.wrap_i64]; omega
      have HK3 := Lib.hid (kp_trans HKQ.out k3)
      rw [← hq2]
      have HQ := Lib.hid hq2
      clear h3 k3 hq2 c13
      go_wp2_with fail
      go_ret
      refine ⟨rfl, PW.turn H.out ?_ (HX.out.put HL12.out x) (Off.setCell (Off.setCell (Off.of S HK3.out) (.inl hS) _) (.inl hS) _) HLM.out⟩
      rw [List.length_append, List.length_singleton, ← HN.out, ← HQ.out]
      exact HP5.out

set_option maxHeartbeats 4000000 in
theorem ptake_ok (h : (PW b m l).p S w) :
    Calls Try.prog 11 #[.pointer (some ⟨b, 0, none⟩)] w fun e w' => e = .returned (takeW l) ∧ Turn (PW b m l.tail) S w w' := by
  have H := Lib.hid h
  obtain ⟨r, f, hp, hr, hS, hlt, hm, hm2⟩ := PW.at_ h
  obtain ⟨_, c13, _⟩ := hp.cells
  have HP := Lib.hid hp
  have HX := Lib.hid hr
  clear h hp hr
  cases l with
  | nil =>
    go_enter Try.func11, Try.ntmps11
    go_wp2_with fail
    go_ret2
    exact ⟨rfl, Turn.here H.out⟩
  | cons x t =>
    have hq0 : (((x :: t).length : Nat) : Int) = (t.length : Int) + 1 := by simp
    have HPL := Lib.hid (place_ok 0 HP.out HX.out.first (by omega))
    obtain ⟨hq, hg⟩ := HX.out.get (i := 0) (by simp)
    obtain ⟨q, hqq⟩ : ∃ q, q = (f + 0) % 12 := ⟨_, rfl⟩
    have HG : Hid (∃ h : q < r.length, r[q] = x) := Lib.hid (by subst hqq; exact ⟨hq, hg⟩)
    rw [← hqq] at HPL
    clear hg hqq hq
    have hf12 := HX.out.first
    have hl12 := HX.out.len
    rw [List.length_cons] at hl12
    have HM := Lib.hid hm
    rw [List.length_cons] at HP c13
    clear hm hq0
    obtain ⟨n, hn⟩ : ∃ n, n = t.length := ⟨_, rfl⟩
    rw [← hn] at HP c13 hl12
    have HT := Lib.hid hn
    clear hn
    have hc0 : (((n + 1 : Nat) : Int) == 0) = false := by simp; omega
    obtain ⟨f', hf'⟩ : ∃ f', f' = (f + 1) % 12 := ⟨_, rfl⟩
    have hrem : Int.tmod ((f : Int) + 1) 12 = (f' : Int) := by
      rw [hf', show ((f : Int) + 1) = ((f + 1 : Nat) : Int) by omega]
      rfl
    have hwf : IntKind.i64.wrap ((f : Int) + 1) = (f : Int) + 1 := by rw [IntKind.wrap_i64]; omega
    have hwn : IntKind.i64.wrap (((n + 1 : Nat) : Int) - 1) = (n : Int) := by rw [IntKind.wrap_i64]; omega
    have HF' := Lib.hid hf'
    clear hf'
    go_enter Try.func11, Try.ntmps11
    go_wp2_with fail
    refine HPL.out.mono ?_
    rintro e w1 ⟨rfl, h1, k1⟩
    have HP1 := Lib.hid (HP.out.of (w' := w1) (by rw [h1]))
    have d0 : w1.cell? ⟨b, q, none⟩ = some (.int .i64 x) := by
      obtain ⟨hq, hg⟩ := HG.out
      rw [HP1.out.ring hq, hg]
    obtain ⟨d12, d13, _⟩ := HP1.out.cells
    have HP2 := Lib.hid (HP1.out.setFirst f')
    obtain ⟨_, e13, _⟩ := HP2.out.cells
    have g12 := HP1.out.froz 12
    have g13 := HP2.out.froz 13
    have HP3 := Lib.hid (HP2.out.setCount n)
    have HK1 := Lib.hid k1
    clear h1 k1
    go_wp2_with fail
    go_ret2
    refine ⟨rfl, PW.turn (l' := t) H.out ?_ (show RingAt r f' t from by rw [HF'.out]; exact HX.out.take) (Off.setCell (Off.setCell (Off.of S HK1.out) (.inl hS) _) (.inl hS) _) (by have := HM.out; rw [List.length_cons] at this; omega)⟩
    rw [← HT.out]
    exact HP3.out

set_option maxHeartbeats 8000000 in
theorem pdrop_ok (x : Int) (h : (PW b m l).p S w) :
    Calls Try.prog 13 #[.pointer (some ⟨b, 0, none⟩), .int .i64 x] w fun e w' => e = .returned (.bool (decide (0 ≤ atW x l))) ∧ Turn (PW b m (dropW x l)) S w w' := by
  have HF := Lib.hid (pat_ok x h)
  have H := Lib.hid h
  obtain ⟨r0, f, hp, hr, hS, hlt, hm, hm2⟩ := PW.at_ h
  have hge := atW_ge x l
  clear h
  by_cases hneg : atW x l < 0
  · have hi : atW x l = -1 := by omega
    rw [dropW_not hi, hi]
    rw [hi] at HF
    clear hneg hi hge hp hr
    go_enter Try.func13, Try.ntmps13
    go_wp2_with fail
    refine HF.out.mono ?_
    rintro e w1 ⟨rfl, h1, k1⟩
    have HK1 := Lib.hid k1
    clear h1 k1
    go_wp2_with fail
    go_ret
    exact ⟨rfl, Turn.same H.out HK1.out⟩
  · obtain ⟨i, hi⟩ : ∃ i : Nat, atW x l = i := ⟨(atW x l).toNat, by omega⟩
    have hil := (atW_is hi).1
    have hdl : ((dropW x l).length : Int) ≤ m := by have := dropW_len x l; omega
    have HDL := Lib.hid hdl
    have HD := Lib.hid (dropW_at hi)
    rw [hi] at HF
    rw [hi]
    have hl12 := hr.len
    obtain ⟨d, hd⟩ : ∃ d, l.length = i + d + 1 := ⟨l.length - i - 1, by omega⟩
    obtain ⟨n1, hn1⟩ : ∃ n1, n1 = i + d := ⟨_, rfl⟩
    rw [hd, ← hn1] at hp
    have HP := Lib.hid hp
    have HX : Hid (RingAt r0 f (shiftW i 0 l)) := Lib.hid (by rw [shiftW_zero]; exact hr)
    have hf12 := hr.first
    have HN1 := Lib.hid hn1
    have HLD := Lib.hid hd
    have hn12 : n1 < 12 := by omega
    have hwn : IntKind.i64.wrap (((n1 + 1 : Nat) : Int) - 1) = (n1 : Int) := by rw [IntKind.wrap_i64]; omega
    have hwd : IntKind.i64.wrap ((n1 : Int) - (i : Int)) = (d : Int) := by rw [IntKind.wrap_i64]; omega
    have hid12 : i + d < 12 := by omega
    clear hneg hi hge hp hr hdl hd hn1 hm hil hl12
    go_enter Try.func13, Try.ntmps13
    go_wp2_with fail
    refine HF.out.mono ?_
    rintro e w1 ⟨rfl, h1, k1⟩
    have HP1 := Lib.hid (HP.out.of (w' := w1) (by rw [h1]))
    obtain ⟨_, d13, _⟩ := HP1.out.cells
    have g13 := HP1.out.froz 13
    have HP2 := Lib.hid (HP1.out.setCount n1)
    obtain ⟨_, e13, _⟩ := HP2.out.cells
    have HO2 : Hid (Off S w (w1.setCell ⟨b, 13, none⟩ (.int .i64 n1))) := Lib.hid (Off.setCell (Off.of S k1) (.inl hS) _)
    clear h1 k1
    go_wp2_with fail
    go_loopw [25] (fun j wr => ∃ (k : Nat) (r : List Int), k ≤ d ∧ j = .int .i64 k ∧ Hid (PRow wr b r f n1 m) ∧ Hid (RingAt r f (shiftW i k l)) ∧ Hid (Off S w wr)) (fun j _ => d - (intOf j).toNat)
    case atStart => exact ⟨0, r0, Nat.zero_le _, rfl, HP2, HX, HO2⟩
    case round =>
      obtain ⟨k, r, hk, rfl, hP, hX, hO⟩ := hrel
      by_cases hkd : k < d
      · have hsl := shiftW_len (a := i) (j := k) (l := l) (by have := HLD.out; omega)
        obtain ⟨hq2, hg2⟩ := hX.out.get (i := i + k + 1) (by rw [hsl]; have := HLD.out; omega)
        rw [shiftW_get (by have := HLD.out; omega) (i + k + 1) (by have := HLD.out; omega) (by omega)] at hg2
        have hX' := hX.out.set (i := i + k) (by rw [hsl]; have := HLD.out; omega) (l[i + k + 1]'(by have := HLD.out; omega))
        rw [shiftW_next (by have := HLD.out; omega)] at hX'
        generalize hy : (l[i + k + 1]'(by have := HLD.out; omega)) = y at *
        have HX2 := Lib.hid hX'
        have HG2 := Lib.hid hg2
        have HPL1 : Hid (Calls Try.prog 19 #[.pointer (some ⟨b, 0, none⟩), .int .i64 ((i : Int) + (k : Int))] wr fun e w' => e = .returned (.pointer (some ⟨b, (f + (i + k)) % 12, none⟩)) ∧ w'.heap = wr.heap ∧ Below wr.heap.size wr w') := Lib.hid (place_ok (i + k) hP.out hf12 (by omega))
        have hw1 : IntKind.i64.wrap ((i : Int) + (k : Int)) = (i : Int) + (k : Int) := by rw [IntKind.wrap_i64]; omega
        have hw2 : IntKind.i64.wrap ((i : Int) + (k : Int) + 1) = (i : Int) + (k : Int) + 1 := by rw [IntKind.wrap_i64]; omega
        clear hX' hg2 hy hsl
        go_wp2_with fail
        refine HPL1.out.mono ?_
        rintro e w3 ⟨rfl, h3, k3⟩
        have HP3 := Lib.hid (hP.out.of (w' := w3) (by rw [h3]))
        have HO3 := Lib.hid (hO.out.trans (Off.of S k3) (fun _ h => .inl h))
        have HPL2 : Hid (Calls Try.prog 19 #[.pointer (some ⟨b, 0, none⟩), .int .i64 ((i : Int) + (k : Int) + 1)] w3 fun e w' => e = .returned (.pointer (some ⟨b, (f + (i + k + 1)) % 12, none⟩)) ∧ w'.heap = w3.heap ∧ Below w3.heap.size w3 w') := Lib.hid (place_ok (i + k + 1) HP3.out hf12 (by omega))
        clear h3 k3
        go_wp2_with fail
        refine HPL2.out.mono ?_
        rintro e w4 ⟨rfl, h4, k4⟩
        have HP4 := Lib.hid (HP3.out.of (w' := w4) (by rw [h4]))
        have HO4 := Lib.hid (HO3.out.trans (Off.of S k4) (fun _ h => .inl h))
        have d4 := HP4.out.ring hq2
        rw [HG2.out] at d4
        obtain ⟨q, hqq⟩ : ∃ q, q = (f + (i + k)) % 12 := ⟨_, rfl⟩
        have hq12 : q < 12 := by omega
        rw [← hqq]
        rw [← hqq] at HX2
        have HP5 := Lib.hid (HP4.out.setRing hq12 y)
        have f4 := HP4.out.froz q
        obtain ⟨z4, e4⟩ : ∃ z, w4.cell? ⟨b, q, none⟩ = some (.int .i64 z) := ⟨_, HP4.out.ring (by rw [HP4.out.size]; exact hq12)⟩
        have HO5 : Hid (Off S w (w4.setCell ⟨b, q, none⟩ (.int .i64 y))) := Lib.hid (Off.setCell HO4.out (.inl hS) _)
        clear h4 k4 hqq HG2
        go_wp2_with fail
        go_roundw
        case rel => exact ⟨k + 1, r.set q y, by omega, by go_num, HP5, HX2, HO5⟩
        case measure => simp [intOf]; omega
      · obtain rfl : k = d := by omega
        have HE : Hid ((shiftW i k l).take (i + k) = dropW x l) := Lib.hid (by rw [shiftW_end (by have := HLD.out; omega), HD.out])
        go_wp2_with fail
        go_ret
        refine ⟨rfl, PW.turn H.out ?_ (HE.out ▸ hX.out.cut (i + k)) hO.out HDL.out⟩
        have hL : (dropW x l).length = n1 := by
          rw [← HE.out, List.length_take, shiftW_len (by have := HLD.out; omega)]
          have := HLD.out
          have := HN1.out
          omega
        rw [hL]
        exact hP.out
end

theorem pnew_bad (m : Int) (hm : m < 0 ∨ 12 < m) (w : World) :
    Calls Try.prog 7 #[.int .i64 m] w fun e w' => e = .returned (.tuple #[.pointer none, .int .i64 1]) ∧ w = w' := by
  go_enter Try.func7, Try.ntmps7
  rcases hm with hm | hm
  · go_wp2_with fail
    go_ret2
    exact ⟨rfl, rfl⟩
  · have hm0 : ¬ m < 0 := by omega
    go_wp2_with fail
    go_ret2
    exact ⟨rfl, rfl⟩
theorem pnew_good (m : Int) (h0 : 0 ≤ m) (h1 : m ≤ 12) (w : World) :
    Calls Try.prog 7 #[.int .i64 m] w fun e w' => e = .returned (.tuple #[.pointer (some ⟨w.heap.size, 0, none⟩), .int .i64 0]) ∧ (PW w.heap.size m []).p (fun k => k = w.heap.size) w' ∧ Below w.heap.size w w' := by
  have hm0 : ¬ m < 0 := by omega
  have hm1 : ¬ 12 < m := by omega
  go_enter Try.func7, Try.ntmps7
  go_wp2_with fail
  go_ret2
  exact ⟨rfl, ⟨List.replicate 12 0, 0, ⟨heap_alloc_new w _, rfl⟩, RingAt.nil rfl, rfl, fun k hk => by subst hk; simp, by simpa using h0, h1⟩, kp_new w _⟩
end Go.Proofs.Ytijemohcengmjaa
