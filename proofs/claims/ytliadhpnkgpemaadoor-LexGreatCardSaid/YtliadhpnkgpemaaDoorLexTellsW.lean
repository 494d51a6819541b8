/-
  LexTells: the tokens of any statement, whether any token may be, and what is written of tokens are as the document says: the walk.
-/
import Derived.Test.YtliadhpnkgpemaaDoorRfL
import Derived.Test.YtliadhpnkgpemaaDoorReg2
namespace Go.Proofs.YtliadhpnkgpemaaDoor
open Go.RowKit
set_option maxRecDepth 100000

theorem step_size {l : List UInt8} (h : l ≠ []) : (∀ m, stepF l = .skip m → m ≤ l.length) ∧ ∀ k t m, stepF l = .tok k t m → m ≤ l.length := by
  cases l with
  | nil => exact absurd rfl h
  | cons c r =>
    rw [stepF]
    by_cases h1 : blankF c = true
    · rw [if_pos h1]
      exact ⟨fun m e => by injection e with e; simp; omega, fun k t m e => by cases e⟩
    rw [if_neg h1]
    by_cases h2 : isLineF (c :: r) = true
    · rw [if_pos h2]
      refine ⟨fun m e => ?_, fun k t m e => by cases e⟩
      injection e with e
      subst e
      unfold lineF
      split
      · exact Nat.le_refl _
      · have := indexByte_lt (l := c :: r) (c := 10) (by omega)
        omega
    rw [if_neg h2]
    by_cases h3 : isRemarkF (c :: r) = true
    · rw [if_pos h3]
      have h2a : begF [47, 42] (c :: r) = true := by
        unfold isRemarkF at h3
        simp only [Bool.and_eq_true] at h3
        exact h3.1
      have h5 := (List.isPrefixOf_iff_prefix.1 h2a).length_le
      have := (closedF_le (c :: r) 2 (by simpa using h5)).1
      split
      · exact ⟨fun m e => (by cases e), fun k t m e => by cases e⟩
      · exact ⟨fun m e => (by injection e with e; omega), fun k t m e => by cases e⟩
    rw [if_neg h3]
    cases hf : firstF (c :: r) with
    | none => exact ⟨fun m e => (by cases e), fun k t m e => by cases e⟩
    | some x =>
      obtain ⟨k, t, n⟩ := x
      have := (firstF_size k t n hf).2
      refine ⟨fun m e => (by cases e), fun k' t' m e => ?_⟩
      simp only [Step.tok.injEq] at e
      omega
theorem lexF_len : ∀ (n : Nat) (l : List UInt8) (x : List (Int × List UInt8)), l.length ≤ n → lexF l = some x → x.length ≤ l.length := by
  intro n
  induction n with
  | zero =>
    intro l x hl h
    obtain rfl : l = [] := List.eq_nil_of_length_eq_zero (by omega)
    rw [lexF_nil] at h
    injection h with h
    subst h
    exact Nat.le_refl _
  | succ n ih =>
    intro l x hl h
    by_cases hne : l = []
    · subst hne
      rw [lexF_nil] at h
      injection h with h
      subst h
      exact Nat.le_refl _
    obtain ⟨hs1, hs2⟩ := step_size hne
    cases hst : stepF l with
    | bad => rw [lexF_bad hne hst] at h; cases h
    | skip m =>
      by_cases hm : m = 0
      · rw [lexF, dif_neg hne, hst] at h
        simp [hm] at h
      · rw [lexF_skip hne hst hm] at h
        have := ih (l.drop m) x (by rw [List.length_drop]; omega) h
        rw [List.length_drop] at this
        omega
    | tok k t m =>
      have hml := hs2 k t m hst
      by_cases hm : m = 0
      · rw [lexF, dif_neg hne, hst] at h
        simp [hm] at h
      · rw [lexF_tok hne hst hm] at h
        obtain ⟨y, hy, rfl⟩ := Option.map_eq_some_iff.1 h
        have := ih (l.drop m) y (by rw [List.length_drop]; omega) hy
        rw [List.length_drop] at this
        simp
        omega
theorem lexA_len (l : List UInt8) : (lexA l).1.length ≤ 200 := by
  unfold lexA
  split
  · simp
  · cases h : lexF l with
    | none => simp
    | some x =>
      have := lexF_len l.length l x (Nat.le_refl _) h
      simp
      omega

/-- a row of tokens, as a fact of a value -/
def trStb (n : Nat) (ts : List Tk) : Stb := ⟨fun v u => ∃ B d, v = .slice B n d ∧ TR u B n ts, fun _ _ _ ⟨B, d, h, r⟩ hb => ⟨B, d, h, r.next hb⟩⟩

theorem sumT_mem {ts : List Tk} {t : Tk} (h : t ∈ ts) : t.t.size ≤ sumT ts := by
  obtain ⟨k, hk, rfl⟩ := List.mem_iff_getElem.1 h
  have := sumT_at hk
  omega

set_option maxHeartbeats 8000000 in
theorem lexTells_walk (s : ByteArray) (A : Option Addr) (n c : Nat) (ts : List Tk) (k : Int) (x : ByteArray) (w : World) (hs : s.size ≤ maxLen) (hr : TR w A n ts) (ht : ∀ t ∈ ts, t.t.size ≤ 140737488351232) (hnc : n ≤ c) (hc : c * 24 ≤ 140737488351232) (hx : x.size ≤ maxLen) (hL : Lw w) :
    Calls Tryd.prog 3 #[.string s, .slice A n c, tokV k x] w fun e w' => e = .returned (.bool true) ∧ Below w.heap.size w w' := by
  unfold tokV
  unfold maxLen at hx
  have kw1 := kp_new w (.cells #[.int .i64 k, .string x] 24)
  have hB := heap_alloc_new w (.cells #[.int .i64 k, .string x] 24)
  have hz : w.heap.size < (w.alloc (.cells #[.int .i64 k, .string x] 24)).heap.size := by simp
  have H1 := Lib.hid (awake4 _ (hL.next kw1))
  have HB := Lib.hid hB
  have HZ := Lib.hid hz
  clear hB hz
  go_enter Tryd.func3, Tryd.ntmps3
  go_wp2_with fail
  refine H1.out.mono ?_
  rintro e w2 ⟨rfl, k2⟩
  have kw2 := kp_trans kw1 k2
  have hB2 := (k2.block _ HZ.out).trans HB.out
  have hz2 : w.heap.size < w2.heap.size := Nat.lt_of_lt_of_le HZ.out k2.size
  clear H1 HB HZ k2
  by_cases hs1 : 2000 < s.size
  · go_wp2_with fail
    go_ret
    exact ⟨rfl, kw2⟩
  have hT := Lib.hid (tokens_ok A n c ts w2 (hr.next kw2) (by omega))
  have HB2 := Lib.hid hB2
  clear hB2
  go_wp2_with fail
  refine hT.out.mono ?_
  rintro e w3 ⟨B3, d3, rfl, r3, k3⟩
  have kw3 := kp_trans kw2 k3
  have hLg := Lib.hid (tlarge_ok B3 n d3 ts w3 r3 (by omega) ht)
  by_cases hlg : 2000 < sumT ts
  · rw [decide_eq_true hlg] at hLg
    clear hT
    go_wp2_with fail
    refine hLg.out.mono ?_
    rintro e w4 ⟨rfl, rfl⟩
    go_wp2_with fail
    go_ret
    exact ⟨rfl, kw3⟩
  rw [decide_eq_false hlg] at hLg
  have hB3 := (k3.block _ hz2).trans HB2.out
  have hz3 : w.heap.size < w3.heap.size := Nat.lt_of_lt_of_le hz2 k3.size
  clear hT HB2 k3
  obtain ⟨x0, x1, _, _⟩ := cells2 hB3
  have HB3 := Lib.hid hB3
  clear hB3
  by_cases hx1 : 2000 < x.size
  · go_wp2_with fail
    refine hLg.out.mono ?_
    rintro e w4 ⟨rfl, rfl⟩
    go_wp2_with fail
    go_ret
    exact ⟨rfl, kw3⟩
  have hX := Lib.hid (lex_ok s w3 hs (hL.next kw3))
  go_wp2_with fail
  refine hLg.out.mono ?_
  rintro e w4 ⟨rfl, rfl⟩
  go_wp2_with fail
  refine hX.out.mono ?_
  rintro e w5 ⟨A1, n1, c1, er, ts1, rfl, ho1, hs5, k5⟩
  have kw5 := kp_trans kw3 k5
  have hB5 := (k5.block _ hz3).trans HB3.out
  have hz5 : w.heap.size < w5.heap.size := Nat.lt_of_lt_of_le hz3 k5.size
  have HB5 := Lib.hid hB5
  have hY := Lib.hid (rlex_ok s w5 hs)
  clear hX hLg HB3 x0 x1 hB5
  go_wp2_with fail
  refine hY.out.mono ?_
  rintro e w8 ⟨A2, n2, c2, er2, ts2, rfl, ho2, hs8, k8⟩
  have hee := hs5.trans hs8.symm
  simp only [Prod.mk.injEq] at hee
  obtain ⟨hts, rfl⟩ := hee
  obtain rfl := saysT_inj hts
  have kw8 := kp_trans kw5 k8
  have hB8 := (k8.block _ hz5).trans HB5.out
  have hz8 : w.heap.size < w8.heap.size := Nat.lt_of_lt_of_le hz5 k8.size
  have hn1 : n1 ≤ 1000000 := by
    have h1 := lexA_len s.data.toList
    rw [← hs5] at h1
    have h2 := saysT_length ts1
    have h3 := ho1.len
    simp only at h1
    omega
  have hn2 : n2 = n1 := by rw [← ho2.len, ← ho1.len]
  subst hn2
  have hn2 := hn1
  have r1 := (ho1.next k8).tr
  have r2 := ho2.tr
  have r8 := hr.next kw8
  have hn : n ≤ 2000 := by
    have h1 := sumT_len ts
    have h2 := hr.len
    omega
  have hts2 : ∀ t ∈ ts, t.t.size ≤ 1000000 := fun t h => by
    have := sumT_mem h
    omega
  have hL8 := hL.next kw8
  have HK := Lib.hid (fun u (hu : Below w8.heap.size w8 u) => cells2 ((hu.block _ hz8).trans hB8))
  have HT1 := Lib.hid (fun u (hu : Below w8.heap.size w8 u) => tokens_ok A1 n2 c1 ts1 u (r1.next hu) (by omega))
  have HT2 := Lib.hid (fun u (hu : Below w8.heap.size w8 u) => tokens_ok A n c ts u (r8.next hu) (by omega))
  have HR2 := Lib.hid (fun u (hu : Below w8.heap.size w8 u) => r2.next hu)
  have hRa := fun u (hu : Below w8.heap.size w8 u) => right_ok k x u (by omega) (hL8.next hu)
  have hRb := fun u (_ : Below w8.heap.size w8 u) => rright_ok k x u (by omega)
  unfold RightTo at hRa hRb
  generalize rightF k x.data.toList = rb at hRa hRb
  have HRa := Lib.hid hRa
  have HRb := Lib.hid hRb
  have hM := fun u (hu : Below w8.heap.size w8 u) => may_ok A n c ts u (r8.next hu) (by omega) hts2
  have hW := fun u (hu : Below w8.heap.size w8 u) => write_ok A n c ts u (r8.next hu) (by omega) (hL8.next hu)
  obtain ⟨r0, hr0⟩ : ∃ r0 : ByteArray, r0.data.toList = writeF (saysT ts) := ⟨⟨(writeF (saysT ts)).toArray⟩, by simp⟩
  have hR0 : ∀ r : ByteArray, r.data.toList = writeF (saysT ts) → r = r0 := fun r h => text_ext (h.trans hr0.symm)
  have HW := Lib.hid hW
  have HR0 := Lib.hid hR0
  cases hmy : mayF ts
  · rw [hmy] at hM
    have HM := Lib.hid hM
    clear hRa hRb hM hW hR0 hr0 hmy hts2 hB8 ho1 ho2 hs5 hs8 hts r1 r2 r8 HB5 hY ht hL8 HW HR0 HT2
    go_wp2_with fail
    refine wp_region_specs2 (S := fun u => Below w8.heap.size w8 u) (Sp := [(37, Stb.eq (.slice A1 n2 c1)), (38, trStb n2 ts1), (39, Stb.eq (.slice A2 n2 c2)), (40, Stb.eq (.bool true)), (41, Stb.eq (.bool true)), (42, Stb.eq (.int .i64 er)), (43, Stb.eq (.int .i64 er)), (44, Stb.eq (.bool true)), (45, Stb.eq (.bool true)), (46, Stb.eq (.bool true)), (47, Stb.eq (.agg #[.int .i64 k, .string x])), (48, Stb.eq (.bool rb)), (49, Stb.eq (.agg #[.int .i64 k, .string x])), (50, Stb.eq (.bool rb)), (51, Stb.eq (.bool true)), (52, Stb.eq (.bool true)), (53, Stb.eq (.bool true)), (54, Stb.eq (.slice A n c)), (55, Stb.eq (.bool false)), (56, Stb.eq (.bool true)), (57, Stb.eq (.bool true)), (58, Stb.eq (undef)), (59, Stb.eq (undef)), (60, Stb.eq (undef)), (61, Stb.eq (undef)), (62, Stb.eq (undef)), (63, Stb.eq (undef)), (64, Stb.eq (.bool true)), (65, Stb.eq (.bool true)), (6, Stb.eq (.bool true))]) (by kernel_rfl) (by kernel_rfl) (kp_drewN _ 1) ?_ ?_
    · refine EachOp.cons ?_ ?_
      · intro a u hst hS hdep
        have h7 : a.tmps.getD 7 undef = .slice A1 n2 c1 := hst.out 7 (by kernel_rfl)
        refine .inl ⟨trivial, ?_⟩
        have g7 := gd h7
        go_simp
        exact Goes.same hS rfl
      refine EachOp.cons ?_ ?_
      · intro a u hst hS hdep
        have h37 : a.tmps.getD 37 undef = .slice A1 n2 c1 := hdep 37 (by kernel_rfl)
        refine .inl ⟨trivial, ?_⟩
        have g37 := gd h37
        go_simp
        refine (HT1.out u hS).mono ?_
        rintro e u' ⟨B, d, rfl, hr, hb'⟩
        exact Goes.next (kp_trans hS hb') hb' ⟨_, _, rfl, hr⟩
      refine EachOp.cons ?_ ?_
      · intro a u hst hS hdep
        have h9 : a.tmps.getD 9 undef = .slice A2 n2 c2 := hst.out 9 (by kernel_rfl)
        refine .inl ⟨trivial, ?_⟩
        have g9 := gd h9
        go_simp
        exact Goes.same hS rfl
      refine EachOp.cons ?_ ?_
      · intro a u hst hS hdep
        obtain ⟨B38, d38, h38, r38⟩ := hdep 38 (by kernel_rfl)
        have h39 : a.tmps.getD 39 undef = .slice A2 n2 c2 := hdep 39 (by kernel_rfl)
        refine .inl ⟨trivial, ?_⟩
        have g38 := gd h38
        have g39 := gd h39
        go_simp
        refine (tsame_ok _ _ n2 n2 _ _ ts1 ts1 u r38 (HR2.out u hS) hn2 hn2 true (Lib.hid (by simp))).mono ?_
        rintro e u' ⟨rfl, hb'⟩
        exact Goes.next (kp_trans hS hb') hb' rfl
      refine EachOp.cons ?_ ?_
      · intro a u hst hS hdep
        have h40 : a.tmps.getD 40 undef = .bool true := hdep 40 (by kernel_rfl)
        refine .inl ⟨trivial, ?_⟩
        have g40 := gd h40
        go_simp
        exact Goes.same hS rfl
      refine EachOp.cons ?_ ?_
      · intro a u hst hS hdep
        have h8 : a.tmps.getD 8 undef = .int .i64 er := hst.out 8 (by kernel_rfl)
        have h41 : a.tmps.getD 41 undef = .bool true := hdep 41 (by kernel_rfl)
        refine .inl ⟨⟨41, by kernel_rfl, h41⟩, ?_⟩
        clear h41
        have g8 := gd h8
        go_simp
        exact Goes.same hS rfl
      refine EachOp.cons ?_ ?_
      · intro a u hst hS hdep
        have h10 : a.tmps.getD 10 undef = .int .i64 er := hst.out 10 (by kernel_rfl)
        have h41 : a.tmps.getD 41 undef = .bool true := hdep 41 (by kernel_rfl)
        refine .inl ⟨⟨41, by kernel_rfl, h41⟩, ?_⟩
        clear h41
        have g10 := gd h10
        go_simp
        exact Goes.same hS rfl
      refine EachOp.cons ?_ ?_
      · intro a u hst hS hdep
        have h42 : a.tmps.getD 42 undef = .int .i64 er := hdep 42 (by kernel_rfl)
        have h43 : a.tmps.getD 43 undef = .int .i64 er := hdep 43 (by kernel_rfl)
        have h41 : a.tmps.getD 41 undef = .bool true := hdep 41 (by kernel_rfl)
        refine .inl ⟨⟨41, by kernel_rfl, h41⟩, ?_⟩
        clear h41
        have g42 := gd h42
        have g43 := gd h43
        go_simp
        exact Goes.same hS rfl
      refine EachOp.cons ?_ ?_
      · intro a u hst hS hdep
        have h41 : a.tmps.getD 41 undef = .bool true := hdep 41 (by kernel_rfl)
        have h44 : a.tmps.getD 44 undef = .bool true := hdep 44 (by kernel_rfl)
        refine .inl ⟨trivial, ?_⟩
        have g41 := gd h41
        have g44 := gd h44
        go_simp
        exact Goes.same hS rfl
      refine EachOp.cons ?_ ?_
      · intro a u hst hS hdep
        have h45 : a.tmps.getD 45 undef = .bool true := hdep 45 (by kernel_rfl)
        refine .inl ⟨trivial, ?_⟩
        have g45 := gd h45
        go_simp
        exact Goes.same hS rfl
      refine EachOp.cons ?_ ?_
      · intro a u hst hS hdep
        have h5 : a.tmps.getD 5 undef = .pointer (some ⟨w.heap.size, 0, none⟩) := hst.out 5 (by kernel_rfl)
        have h46 : a.tmps.getD 46 undef = .bool true := hdep 46 (by kernel_rfl)
        refine .inl ⟨⟨46, by kernel_rfl, h46⟩, ?_⟩
        clear h46
        have g5 := gd h5
        obtain ⟨m0, m1, _, _⟩ := HK.out u hS
        go_simp
        exact Goes.same hS rfl
      refine EachOp.cons ?_ ?_
      · intro a u hst hS hdep
        have h47 : a.tmps.getD 47 undef = .agg #[.int .i64 k, .string x] := hdep 47 (by kernel_rfl)
        have h46 : a.tmps.getD 46 undef = .bool true := hdep 46 (by kernel_rfl)
        refine .inl ⟨⟨46, by kernel_rfl, h46⟩, ?_⟩
        clear h46
        have g47 := gd h47
        go_simp
        refine (HRa.out u hS).mono ?_
        rintro e u' ⟨rfl, hb'⟩
        exact Goes.next (kp_trans hS hb') hb' rfl
      refine EachOp.cons ?_ ?_
      · intro a u hst hS hdep
        have h5 : a.tmps.getD 5 undef = .pointer (some ⟨w.heap.size, 0, none⟩) := hst.out 5 (by kernel_rfl)
        have h46 : a.tmps.getD 46 undef = .bool true := hdep 46 (by kernel_rfl)
        refine .inl ⟨⟨46, by kernel_rfl, h46⟩, ?_⟩
        clear h46
        have g5 := gd h5
        obtain ⟨m0, m1, _, _⟩ := HK.out u hS
        go_simp
        exact Goes.same hS rfl
      refine EachOp.cons ?_ ?_
      · intro a u hst hS hdep
        have h49 : a.tmps.getD 49 undef = .agg #[.int .i64 k, .string x] := hdep 49 (by kernel_rfl)
        have h46 : a.tmps.getD 46 undef = .bool true := hdep 46 (by kernel_rfl)
        refine .inl ⟨⟨46, by kernel_rfl, h46⟩, ?_⟩
        clear h46
        have g49 := gd h49
        go_simp
        refine (HRb.out u hS).mono ?_
        rintro e u' ⟨rfl, hb'⟩
        exact Goes.next (kp_trans hS hb') hb' rfl
      refine EachOp.cons ?_ ?_
      · intro a u hst hS hdep
        have h48 : a.tmps.getD 48 undef = .bool rb := hdep 48 (by kernel_rfl)
        have h50 : a.tmps.getD 50 undef = .bool rb := hdep 50 (by kernel_rfl)
        have h46 : a.tmps.getD 46 undef = .bool true := hdep 46 (by kernel_rfl)
        refine .inl ⟨⟨46, by kernel_rfl, h46⟩, ?_⟩
        clear h46
        have g48 := gd h48
        have g50 := gd h50
        go_simp
        exact Goes.same hS rfl
      refine EachOp.cons ?_ ?_
      · intro a u hst hS hdep
        have h46 : a.tmps.getD 46 undef = .bool true := hdep 46 (by kernel_rfl)
        have h51 : a.tmps.getD 51 undef = .bool true := hdep 51 (by kernel_rfl)
        refine .inl ⟨trivial, ?_⟩
        have g46 := gd h46
        have g51 := gd h51
        go_simp
        exact Goes.same hS rfl
      refine EachOp.cons ?_ ?_
      · intro a u hst hS hdep
        have h52 : a.tmps.getD 52 undef = .bool true := hdep 52 (by kernel_rfl)
        refine .inl ⟨trivial, ?_⟩
        have g52 := gd h52
        go_simp
        exact Goes.same hS rfl
      refine EachOp.cons ?_ ?_
      · intro a u hst hS hdep
        have h1 : a.tmps.getD 1 undef = .slice A n c := hst.out 1 (by kernel_rfl)
        have h53 : a.tmps.getD 53 undef = .bool true := hdep 53 (by kernel_rfl)
        refine .inl ⟨⟨53, by kernel_rfl, h53⟩, ?_⟩
        clear h53
        have g1 := gd h1
        go_simp
        exact Goes.same hS rfl
      refine EachOp.cons ?_ ?_
      · intro a u hst hS hdep
        have h54 : a.tmps.getD 54 undef = .slice A n c := hdep 54 (by kernel_rfl)
        have h53 : a.tmps.getD 53 undef = .bool true := hdep 53 (by kernel_rfl)
        refine .inl ⟨⟨53, by kernel_rfl, h53⟩, ?_⟩
        clear h53
        have g54 := gd h54
        go_simp
        refine (HM.out u hS).mono ?_
        rintro e u' ⟨rfl, hb'⟩
        exact Goes.next (kp_trans hS hb') hb' rfl
      refine EachOp.cons ?_ ?_
      · intro a u hst hS hdep
        have h55 : a.tmps.getD 55 undef = .bool false := hdep 55 (by kernel_rfl)
        have h53 : a.tmps.getD 53 undef = .bool true := hdep 53 (by kernel_rfl)
        refine .inl ⟨⟨53, by kernel_rfl, h53⟩, ?_⟩
        clear h53
        have g55 := gd h55
        go_simp
        exact Goes.same hS rfl
      refine EachOp.cons ?_ ?_
      · intro a u hst hS hdep
        have h56 : a.tmps.getD 56 undef = .bool true := hdep 56 (by kernel_rfl)
        have h53 : a.tmps.getD 53 undef = .bool true := hdep 53 (by kernel_rfl)
        refine .inl ⟨⟨53, by kernel_rfl, h53⟩, ?_⟩
        clear h53
        have g56 := gd h56
        go_simp
        exact Goes.same hS rfl
      refine EachOp.cons ?_ ?_
      · intro a u hst hS hdep
        have h57 : a.tmps.getD 57 undef = .bool true := hdep 57 (by kernel_rfl)
        exact .inr ⟨⟨57, by kernel_rfl, h57⟩, hS, fun t e => by injection e with e; subst e; rfl⟩
      refine EachOp.cons ?_ ?_
      · intro a u hst hS hdep
        have h57 : a.tmps.getD 57 undef = .bool true := hdep 57 (by kernel_rfl)
        exact .inr ⟨⟨57, by kernel_rfl, h57⟩, hS, fun t e => by injection e with e; subst e; rfl⟩
      refine EachOp.cons ?_ ?_
      · intro a u hst hS hdep
        have h57 : a.tmps.getD 57 undef = .bool true := hdep 57 (by kernel_rfl)
        exact .inr ⟨⟨57, by kernel_rfl, h57⟩, hS, fun t e => by injection e with e; subst e; rfl⟩
      refine EachOp.cons ?_ ?_
      · intro a u hst hS hdep
        have h57 : a.tmps.getD 57 undef = .bool true := hdep 57 (by kernel_rfl)
        exact .inr ⟨⟨57, by kernel_rfl, h57⟩, hS, fun t e => by injection e with e; subst e; rfl⟩
      refine EachOp.cons ?_ ?_
      · intro a u hst hS hdep
        have h57 : a.tmps.getD 57 undef = .bool true := hdep 57 (by kernel_rfl)
        exact .inr ⟨⟨57, by kernel_rfl, h57⟩, hS, fun t e => by injection e with e; subst e; rfl⟩
      refine EachOp.cons ?_ ?_
      · intro a u hst hS hdep
        have h57 : a.tmps.getD 57 undef = .bool true := hdep 57 (by kernel_rfl)
        exact .inr ⟨⟨57, by kernel_rfl, h57⟩, hS, fun t e => by injection e with e; subst e; rfl⟩
      refine EachOp.cons ?_ ?_
      · intro a u hst hS hdep
        have h57 : a.tmps.getD 57 undef = .bool true := hdep 57 (by kernel_rfl)
        have h63 : a.tmps.getD 63 undef = undef := hdep 63 (by kernel_rfl)
        have h53 : a.tmps.getD 53 undef = .bool true := hdep 53 (by kernel_rfl)
        refine .inl ⟨⟨53, by kernel_rfl, h53⟩, ?_⟩
        clear h53
        have g57 := gd h57
        have g63 := gd h63
        go_simp
        exact Goes.same hS rfl
      refine EachOp.cons ?_ ?_
      · intro a u hst hS hdep
        have h53 : a.tmps.getD 53 undef = .bool true := hdep 53 (by kernel_rfl)
        have h64 : a.tmps.getD 64 undef = .bool true := hdep 64 (by kernel_rfl)
        refine .inl ⟨trivial, ?_⟩
        have g53 := gd h53
        have g64 := gd h64
        go_simp
        exact Goes.same hS rfl
      refine EachOp.cons ?_ ?_
      · intro a u hst hS hdep
        have h65 : a.tmps.getD 65 undef = .bool true := hdep 65 (by kernel_rfl)
        refine .inl ⟨trivial, ?_⟩
        have g65 := gd h65
        go_simp
        exact Goes.same hS rfl
      exact EachOp.nil
    · intro a u hst hS hdep
      have h6 : a.tmps.getD 6 undef = .bool true := hdep 6 (by kernel_rfl)
      have hsz : a.tmps.size = 66 := hst.size
      go_wp2_with fail
      exact bodyPost_ret ((results_tmp rfl _ _ _).trans (by rw [h6])) hst.defers ⟨rfl, kp_trans kw8 hS⟩
  · rw [hmy] at hM
    have HM := Lib.hid hM
    have hmay := Lib.hid hmy
    clear hRa hRb hM hW hR0 hr0 hmy hts2 hB8 ho1 ho2 hs5 hs8 hts r1 r2 r8 HB5 hY ht hL8
    go_wp2_with fail
    refine wp_region_specs2 (S := fun u => Below w8.heap.size w8 u) (Sp := [(37, Stb.eq (.slice A1 n2 c1)), (38, trStb n2 ts1), (39, Stb.eq (.slice A2 n2 c2)), (40, Stb.eq (.bool true)), (41, Stb.eq (.bool true)), (42, Stb.eq (.int .i64 er)), (43, Stb.eq (.int .i64 er)), (44, Stb.eq (.bool true)), (45, Stb.eq (.bool true)), (46, Stb.eq (.bool true)), (47, Stb.eq (.agg #[.int .i64 k, .string x])), (48, Stb.eq (.bool rb)), (49, Stb.eq (.agg #[.int .i64 k, .string x])), (50, Stb.eq (.bool rb)), (51, Stb.eq (.bool true)), (52, Stb.eq (.bool true)), (53, Stb.eq (.bool true)), (54, Stb.eq (.slice A n c)), (55, Stb.eq (.bool true)), (56, Stb.eq (.bool false)), (57, Stb.eq (.bool false)), (58, Stb.eq (.slice A n c)), (59, Stb.eq (.string r0)), (60, Stb.eq (.slice A n c)), (61, trStb n ts), (62, Stb.eq (.string r0)), (63, Stb.eq (.bool true)), (64, Stb.eq (.bool true)), (65, Stb.eq (.bool true)), (6, Stb.eq (.bool true))]) (by kernel_rfl) (by kernel_rfl) (kp_drewN _ 1) ?_ ?_
    · refine EachOp.cons ?_ ?_
      · intro a u hst hS hdep
        have h7 : a.tmps.getD 7 undef = .slice A1 n2 c1 := hst.out 7 (by kernel_rfl)
        refine .inl ⟨trivial, ?_⟩
        have g7 := gd h7
        go_simp
        exact Goes.same hS rfl
      refine EachOp.cons ?_ ?_
      · intro a u hst hS hdep
        have h37 : a.tmps.getD 37 undef = .slice A1 n2 c1 := hdep 37 (by kernel_rfl)
        refine .inl ⟨trivial, ?_⟩
        have g37 := gd h37
        go_simp
        refine (HT1.out u hS).mono ?_
        rintro e u' ⟨B, d, rfl, hr, hb'⟩
        exact Goes.next (kp_trans hS hb') hb' ⟨_, _, rfl, hr⟩
      refine EachOp.cons ?_ ?_
      · intro a u hst hS hdep
        have h9 : a.tmps.getD 9 undef = .slice A2 n2 c2 := hst.out 9 (by kernel_rfl)
        refine .inl ⟨trivial, ?_⟩
        have g9 := gd h9
        go_simp
        exact Goes.same hS rfl
      refine EachOp.cons ?_ ?_
      · intro a u hst hS hdep
        obtain ⟨B38, d38, h38, r38⟩ := hdep 38 (by kernel_rfl)
        have h39 : a.tmps.getD 39 undef = .slice A2 n2 c2 := hdep 39 (by kernel_rfl)
        refine .inl ⟨trivial, ?_⟩
        have g38 := gd h38
        have g39 := gd h39
        go_simp
        refine (tsame_ok _ _ n2 n2 _ _ ts1 ts1 u r38 (HR2.out u hS) hn2 hn2 true (Lib.hid (by simp))).mono ?_
        rintro e u' ⟨rfl, hb'⟩
        exact Goes.next (kp_trans hS hb') hb' rfl
      refine EachOp.cons ?_ ?_
      · intro a u hst hS hdep
        have h40 : a.tmps.getD 40 undef = .bool true := hdep 40 (by kernel_rfl)
        refine .inl ⟨trivial, ?_⟩
        have g40 := gd h40
        go_simp
        exact Goes.same hS rfl
      refine EachOp.cons ?_ ?_
      · intro a u hst hS hdep
        have h8 : a.tmps.getD 8 undef = .int .i64 er := hst.out 8 (by kernel_rfl)
        have h41 : a.tmps.getD 41 undef = .bool true := hdep 41 (by kernel_rfl)
        refine .inl ⟨⟨41, by kernel_rfl, h41⟩, ?_⟩
        clear h41
        have g8 := gd h8
        go_simp
        exact Goes.same hS rfl
      refine EachOp.cons ?_ ?_
      · intro a u hst hS hdep
        have h10 : a.tmps.getD 10 undef = .int .i64 er := hst.out 10 (by kernel_rfl)
        have h41 : a.tmps.getD 41 undef = .bool true := hdep 41 (by kernel_rfl)
        refine .inl ⟨⟨41, by kernel_rfl, h41⟩, ?_⟩
        clear h41
        have g10 := gd h10
        go_simp
        exact Goes.same hS rfl
      refine EachOp.cons ?_ ?_
      · intro a u hst hS hdep
        have h42 : a.tmps.getD 42 undef = .int .i64 er := hdep 42 (by kernel_rfl)
        have h43 : a.tmps.getD 43 undef = .int .i64 er := hdep 43 (by kernel_rfl)
        have h41 : a.tmps.getD 41 undef = .bool true := hdep 41 (by kernel_rfl)
        refine .inl ⟨⟨41, by kernel_rfl, h41⟩, ?_⟩
        clear h41
        have g42 := gd h42
        have g43 := gd h43
        go_simp
        exact Goes.same hS rfl
      refine EachOp.cons ?_ ?_
      · intro a u hst hS hdep
        have h41 : a.tmps.getD 41 undef = .bool true := hdep 41 (by kernel_rfl)
        have h44 : a.tmps.getD 44 undef = .bool true := hdep 44 (by kernel_rfl)
        refine .inl ⟨trivial, ?_⟩
        have g41 := gd h41
        have g44 := gd h44
        go_simp
        exact Goes.same hS rfl
      refine EachOp.cons ?_ ?_
      · intro a u hst hS hdep
        have h45 : a.tmps.getD 45 undef = .bool true := hdep 45 (by kernel_rfl)
        refine .inl ⟨trivial, ?_⟩
        have g45 := gd h45
        go_simp
        exact Goes.same hS rfl
      refine EachOp.cons ?_ ?_
      · intro a u hst hS hdep
        have h5 : a.tmps.getD 5 undef = .pointer (some ⟨w.heap.size, 0, none⟩) := hst.out 5 (by kernel_rfl)
        have h46 : a.tmps.getD 46 undef = .bool true := hdep 46 (by kernel_rfl)
        refine .inl ⟨⟨46, by kernel_rfl, h46⟩, ?_⟩
        clear h46
        have g5 := gd h5
        obtain ⟨m0, m1, _, _⟩ := HK.out u hS
        go_simp
        exact Goes.same hS rfl
      refine EachOp.cons ?_ ?_
      · intro a u hst hS hdep
        have h47 : a.tmps.getD 47 undef = .agg #[.int .i64 k, .string x] := hdep 47 (by kernel_rfl)
        have h46 : a.tmps.getD 46 undef = .bool true := hdep 46 (by kernel_rfl)
        refine .inl ⟨⟨46, by kernel_rfl, h46⟩, ?_⟩
        clear h46
        have g47 := gd h47
        go_simp
        refine (HRa.out u hS).mono ?_
        rintro e u' ⟨rfl, hb'⟩
        exact Goes.next (kp_trans hS hb') hb' rfl
      refine EachOp.cons ?_ ?_
      · intro a u hst hS hdep
        have h5 : a.tmps.getD 5 undef = .pointer (some ⟨w.heap.size, 0, none⟩) := hst.out 5 (by kernel_rfl)
        have h46 : a.tmps.getD 46 undef = .bool true := hdep 46 (by kernel_rfl)
        refine .inl ⟨⟨46, by kernel_rfl, h46⟩, ?_⟩
        clear h46
        have g5 := gd h5
        obtain ⟨m0, m1, _, _⟩ := HK.out u hS
        go_simp
        exact Goes.same hS rfl
      refine EachOp.cons ?_ ?_
      · intro a u hst hS hdep
        have h49 : a.tmps.getD 49 undef = .agg #[.int .i64 k, .string x] := hdep 49 (by kernel_rfl)
        have h46 : a.tmps.getD 46 undef = .bool true := hdep 46 (by kernel_rfl)
        refine .inl ⟨⟨46, by kernel_rfl, h46⟩, ?_⟩
        clear h46
        have g49 := gd h49
        go_simp
        refine (HRb.out u hS).mono ?_
        rintro e u' ⟨rfl, hb'⟩
        exact Goes.next (kp_trans hS hb') hb' rfl
      refine EachOp.cons ?_ ?_
      · intro a u hst hS hdep
        have h48 : a.tmps.getD 48 undef = .bool rb := hdep 48 (by kernel_rfl)
        have h50 : a.tmps.getD 50 undef = .bool rb := hdep 50 (by kernel_rfl)
        have h46 : a.tmps.getD 46 undef = .bool true := hdep 46 (by kernel_rfl)
        refine .inl ⟨⟨46, by kernel_rfl, h46⟩, ?_⟩
        clear h46
        have g48 := gd h48
        have g50 := gd h50
        go_simp
        exact Goes.same hS rfl
      refine EachOp.cons ?_ ?_
      · intro a u hst hS hdep
        have h46 : a.tmps.getD 46 undef = .bool true := hdep 46 (by kernel_rfl)
        have h51 : a.tmps.getD 51 undef = .bool true := hdep 51 (by kernel_rfl)
        refine .inl ⟨trivial, ?_⟩
        have g46 := gd h46
        have g51 := gd h51
        go_simp
        exact Goes.same hS rfl
      refine EachOp.cons ?_ ?_
      · intro a u hst hS hdep
        have h52 : a.tmps.getD 52 undef = .bool true := hdep 52 (by kernel_rfl)
        refine .inl ⟨trivial, ?_⟩
        have g52 := gd h52
        go_simp
        exact Goes.same hS rfl
      refine EachOp.cons ?_ ?_
      · intro a u hst hS hdep
        have h1 : a.tmps.getD 1 undef = .slice A n c := hst.out 1 (by kernel_rfl)
        have h53 : a.tmps.getD 53 undef = .bool true := hdep 53 (by kernel_rfl)
        refine .inl ⟨⟨53, by kernel_rfl, h53⟩, ?_⟩
        clear h53
        have g1 := gd h1
        go_simp
        exact Goes.same hS rfl
      refine EachOp.cons ?_ ?_
      · intro a u hst hS hdep
        have h54 : a.tmps.getD 54 undef = .slice A n c := hdep 54 (by kernel_rfl)
        have h53 : a.tmps.getD 53 undef = .bool true := hdep 53 (by kernel_rfl)
        refine .inl ⟨⟨53, by kernel_rfl, h53⟩, ?_⟩
        clear h53
        have g54 := gd h54
        go_simp
        refine (HM.out u hS).mono ?_
        rintro e u' ⟨rfl, hb'⟩
        exact Goes.next (kp_trans hS hb') hb' rfl
      refine EachOp.cons ?_ ?_
      · intro a u hst hS hdep
        have h55 : a.tmps.getD 55 undef = .bool true := hdep 55 (by kernel_rfl)
        have h53 : a.tmps.getD 53 undef = .bool true := hdep 53 (by kernel_rfl)
        refine .inl ⟨⟨53, by kernel_rfl, h53⟩, ?_⟩
        clear h53
        have g55 := gd h55
        go_simp
        exact Goes.same hS rfl
      refine EachOp.cons ?_ ?_
      · intro a u hst hS hdep
        have h56 : a.tmps.getD 56 undef = .bool false := hdep 56 (by kernel_rfl)
        have h53 : a.tmps.getD 53 undef = .bool true := hdep 53 (by kernel_rfl)
        refine .inl ⟨⟨53, by kernel_rfl, h53⟩, ?_⟩
        clear h53
        have g56 := gd h56
        go_simp
        exact Goes.same hS rfl
      refine EachOp.cons ?_ ?_
      · intro a u hst hS hdep
        have h1 : a.tmps.getD 1 undef = .slice A n c := hst.out 1 (by kernel_rfl)
        have h57 : a.tmps.getD 57 undef = .bool false := hdep 57 (by kernel_rfl)
        refine .inl ⟨⟨57, by kernel_rfl, h57⟩, ?_⟩
        clear h57
        have g1 := gd h1
        go_simp
        exact Goes.same hS rfl
      refine EachOp.cons ?_ ?_
      · intro a u hst hS hdep
        have h58 : a.tmps.getD 58 undef = .slice A n c := hdep 58 (by kernel_rfl)
        have h57 : a.tmps.getD 57 undef = .bool false := hdep 57 (by kernel_rfl)
        refine .inl ⟨⟨57, by kernel_rfl, h57⟩, ?_⟩
        clear h57
        have g58 := gd h58
        go_simp
        refine (HW.out u hS).mono ?_
        rintro e u' ⟨r, rfl, hr, hb'⟩
        obtain rfl := HR0.out r hr
        exact Goes.next (kp_trans hS hb') hb' rfl
      refine EachOp.cons ?_ ?_
      · intro a u hst hS hdep
        have h1 : a.tmps.getD 1 undef = .slice A n c := hst.out 1 (by kernel_rfl)
        have h57 : a.tmps.getD 57 undef = .bool false := hdep 57 (by kernel_rfl)
        refine .inl ⟨⟨57, by kernel_rfl, h57⟩, ?_⟩
        clear h57
        have g1 := gd h1
        go_simp
        exact Goes.same hS rfl
      refine EachOp.cons ?_ ?_
      · intro a u hst hS hdep
        have h60 : a.tmps.getD 60 undef = .slice A n c := hdep 60 (by kernel_rfl)
        have h57 : a.tmps.getD 57 undef = .bool false := hdep 57 (by kernel_rfl)
        refine .inl ⟨⟨57, by kernel_rfl, h57⟩, ?_⟩
        clear h57
        have g60 := gd h60
        go_simp
        refine (HT2.out u hS).mono ?_
        rintro e u' ⟨B, d, rfl, hr, hb'⟩
        exact Goes.next (kp_trans hS hb') hb' ⟨_, _, rfl, hr⟩
      refine EachOp.cons ?_ ?_
      · intro a u hst hS hdep
        obtain ⟨B61, d61, h61, r61⟩ := hdep 61 (by kernel_rfl)
        have h57 : a.tmps.getD 57 undef = .bool false := hdep 57 (by kernel_rfl)
        refine .inl ⟨⟨57, by kernel_rfl, h57⟩, ?_⟩
        clear h57
        have g61 := gd h61
        go_simp
        refine (rwrite_ok B61 n d61 ts u r61 (by omega) hmay.out).mono ?_
        rintro e u' ⟨r, rfl, hr, hb'⟩
        obtain rfl := HR0.out r hr
        exact Goes.next (kp_trans hS hb') hb' rfl
      refine EachOp.cons ?_ ?_
      · intro a u hst hS hdep
        have h59 : a.tmps.getD 59 undef = .string r0 := hdep 59 (by kernel_rfl)
        have h62 : a.tmps.getD 62 undef = .string r0 := hdep 62 (by kernel_rfl)
        have h57 : a.tmps.getD 57 undef = .bool false := hdep 57 (by kernel_rfl)
        refine .inl ⟨⟨57, by kernel_rfl, h57⟩, ?_⟩
        clear h57
        have g59 := gd h59
        have g62 := gd h62
        go_simp
        exact Goes.same hS rfl
      refine EachOp.cons ?_ ?_
      · intro a u hst hS hdep
        have h57 : a.tmps.getD 57 undef = .bool false := hdep 57 (by kernel_rfl)
        have h63 : a.tmps.getD 63 undef = .bool true := hdep 63 (by kernel_rfl)
        have h53 : a.tmps.getD 53 undef = .bool true := hdep 53 (by kernel_rfl)
        refine .inl ⟨⟨53, by kernel_rfl, h53⟩, ?_⟩
        clear h53
        have g57 := gd h57
        have g63 := gd h63
        go_simp
        exact Goes.same hS rfl
      refine EachOp.cons ?_ ?_
      · intro a u hst hS hdep
        have h53 : a.tmps.getD 53 undef = .bool true := hdep 53 (by kernel_rfl)
        have h64 : a.tmps.getD 64 undef = .bool true := hdep 64 (by kernel_rfl)
        refine .inl ⟨trivial, ?_⟩
        have g53 := gd h53
        have g64 := gd h64
        go_simp
        exact Goes.same hS rfl
      refine EachOp.cons ?_ ?_
      · intro a u hst hS hdep
        have h65 : a.tmps.getD 65 undef = .bool true := hdep 65 (by kernel_rfl)
        refine .inl ⟨trivial, ?_⟩
        have g65 := gd h65
        go_simp
        exact Goes.same hS rfl
      exact EachOp.nil
    · intro a u hst hS hdep
      have h6 : a.tmps.getD 6 undef = .bool true := hdep 6 (by kernel_rfl)
      have hsz : a.tmps.size = 66 := hst.size
      go_wp2_with fail
      exact bodyPost_ret ((results_tmp rfl _ _ _).trans (by rw [h6])) hst.defers ⟨rfl, kp_trans kw8 hS⟩
end Go.Proofs.YtliadhpnkgpemaaDoor
