/-
  Contracts and plain functions that the law stands on, part 5 of 5.
-/
import Derived.Test.YtkbaljdpnopbmaaQD4
namespace Go.Proofs.Ytkbaljdpnopbmaa
/- Layer 10's laws: the row behind an act; rows of who waits that the call owns. -/
section
open Go.RowKit
set_option maxRecDepth 100000
theorem own_kept {w w' : World} {base n c size : Nat} {e : TypeId} {A : Option Addr} {xs : List Value} (h : w.ownsRow base e size (.slice A n c) n xs) (hk : ∀ k, rowB A k → w'.heap[k]? = w.heap[k]?) : w'.ownsRow base e size (.slice A n c) n xs := by
  obtain ⟨h1, h2⟩ := h
  refine ⟨h1, ?_⟩
  rcases h2 with h | ⟨g, cap, cur, hv, hg, hh, r⟩
  · exact .inl h
  · injection hv with hA _ _
    exact .inr ⟨g, cap, cur, by rw [hA]; congr, hg, (hk g ⟨_, hA, rfl⟩).trans hh, r⟩
theorem put_facts (m x : Int) (l : List Int) : ((putW m x l).1 = 0 ∧ (putW m x l).2 = l ++ [x]) ∨ (((putW m x l).1 = 7 ∨ (putW m x l).1 = 5) ∧ (putW m x l).2 = l) := by
  unfold putW
  split
  · exact .inr ⟨.inl rfl, rfl⟩
  split
  · exact .inr ⟨.inr rfl, rfl⟩
  · exact .inl ⟨rfl, rfl⟩
/-- the row behind an act -/
structure Fair (t : Act6) (p p' : Pl) (T : Told6) : Prop where
  ok : t.d = 0 → T.e = 0 → p.row = [] ∧ p'.row = [] ∧ 1 ≤ T.a
  queue : t.d = 0 → T.e = 13 → p'.row = p.row ++ [t.ss]
  got : t.d = 1 → T.i = true → p.row = T.a :: p'.row
  same : t.d ≠ 2 → ¬ (t.d = 0 ∧ T.e = 0) → ¬ (t.d = 0 ∧ T.e = 13) → ¬ (t.d = 1 ∧ T.i = true) → p'.row = p.row
section
variable {b : Nat} {mo idl m : Int} {k : Nat} {p : Pl} {S : Nat → Prop} {w w0 : World} {N : Nat → Prop}
theorem acq_row (hk : KInv mo m k p) (h1000 : k ≤ 1000) (ss ep now : Int) (p' : Pl) (a e : Int) (h : acqP mo m ss ep now p = (p', a, e)) :
    (e = 0 → p.row = [] ∧ p'.row = [] ∧ 1 ≤ a) ∧ (e = 13 → p'.row = p.row ++ [ss]) ∧ (e ≠ 0 → e ≠ 13 → p'.row = p.row) := by
  have hq : ∀ q : Pl, q.row = p.row → ((queueP m ss q).2 ≠ 0) ∧ ((queueP m ss q).2 = 13 → (queueP m ss q).1.row = p.row ++ [ss]) ∧ ((queueP m ss q).2 ≠ 13 → (queueP m ss q).1.row = p.row) := fun q hqr => by
    unfold queueP
    rw [hqr]
    rcases put_facts m ss p.row with ⟨h1, h2⟩ | ⟨h1, h2⟩
    · refine ⟨by show (if _ then _ else _ : Int) ≠ 0; rw [if_pos h1]; omega, fun _ => h2, fun h => absurd (by rw [if_pos h1]) h⟩
    · have h0 : (putW m ss p.row).1 ≠ 0 := by rcases h1 with h | h <;> omega
      refine ⟨by rw [if_neg h0]; exact h0, fun h => ?_, fun _ => h2⟩
      rw [if_neg h0] at h
      rcases h1 with h1 | h1 <;> omega
  unfold acqP at h
  split at h
  · injection h with h1 h2; injection h2 with h2 h3; subst h1 h2 h3
    exact ⟨by omega, by omega, fun _ _ => rfl⟩
  split at h
  · injection h with h1 h2; injection h2 with h2 h3; subst h1 h2 h3
    exact ⟨by omega, by omega, fun _ _ => rfl⟩
  split at h
  · injection h with h1 h2; injection h2 with h2 h3; subst h1 h2 h3
    exact ⟨by omega, by omega, fun _ _ => rfl⟩
  split at h
  · rename_i hr
    split at h
    · rename_i hg
      injection h with h1 h2; injection h2 with h2 h3; subst h1 h2 h3
      refine ⟨fun _ => ⟨hr, ?_, (giveI_pos hk h1000 ep).1 hg⟩, by omega, by omega⟩
      rw [giveP_rowP]
      exact hr
    · injection h with h1 h2; injection h2 with h2 h3; subst h1 h2 h3
      obtain ⟨a1, a2, a3⟩ := hq (giveP mo ss ep now p) (giveP_rowP _ _ _ _ _)
      exact ⟨fun e => absurd e a1, a2, fun _ => a3⟩
  · injection h with h1 h2; injection h2 with h2 h3; subst h1 h2 h3
    obtain ⟨a1, a2, a3⟩ := hq p rfl
    exact ⟨fun e => absurd e a1, a2, fun _ => a3⟩
theorem serve_row (ep now : Int) (p' : Pl) (a c : Int) (i : Bool) (h : serveP mo ep now p = (p', a, c, i)) : (i = true → p.row = a :: p'.row) ∧ (i = false → p'.row = p.row) := by
  unfold serveP at h
  split at h
  · rename_i hr
    injection h with h1 h2; injection h2 with h2 h3; injection h3 with h3 h4; subst h1 h2 h3 h4
    exact ⟨by simp, fun _ => rfl⟩
  · rename_i ss r hr
    split at h
    · injection h with h1 h2; injection h2 with h2 h3; injection h3 with h3 h4; subst h1 h2 h3 h4
      exact ⟨fun _ => hr, by simp⟩
    · injection h with h1 h2; injection h2 with h2 h3; injection h3 with h3 h4; subst h1 h2 h3 h4
      exact ⟨by simp, fun _ => giveP_rowP _ _ _ _ _⟩
theorem other_row (idl : Int) (t : Act6) (h0 : t.d ≠ 0) (h1 : t.d ≠ 1) (h2 : t.d ≠ 2) : (doP mo idl m t p).row = p.row := by
  unfold doP
  rw [if_neg h0, if_neg h1, if_neg h2]
  split
  · unfold sendP; split <;> rfl
  split
  · unfold replyP; split <;> rfl
  split
  · unfold soilP; split <;> rfl
  split
  · unfold releaseP
    split
    · rfl
    split <;> rfl
  split
  · unfold breakP; split <;> rfl
  split
  · rfl
  split
  · rfl
  · rfl
theorem fair (hk : KInv mo m k p) (h1000 : k ≤ 1000) (idl : Int) (t : Act6) : Fair t p (doP mo idl m t p) (doT mo idl m t p) := by
  by_cases h0 : t.d = 0
  · have e1 : doP mo idl m t p = (acqP mo m t.ss t.ep t.now p).1 := by unfold doP; rw [if_pos h0]
    have e2 : doT mo idl m t p = ⟨(acqP mo m t.ss t.ep t.now p).2.1, 0, 0, false, (acqP mo m t.ss t.ep t.now p).2.2⟩ := by unfold doT; rw [if_pos h0]
    obtain ⟨a1, a2, a3⟩ := acq_row hk h1000 t.ss t.ep t.now _ _ _ rfl
    rw [e1, e2]
    exact ⟨fun _ => a1, fun _ => a2, fun h => by omega, fun _ n1 n2 _ => a3 (fun e => n1 ⟨h0, e⟩) fun e => n2 ⟨h0, e⟩⟩
  by_cases h1 : t.d = 1
  · have e1 : doP mo idl m t p = (serveP mo t.ep t.now p).1 := by unfold doP; rw [if_neg h0, if_pos h1]
    have e2 : doT mo idl m t p = ⟨(serveP mo t.ep t.now p).2.1, (serveP mo t.ep t.now p).2.2.1, 0, (serveP mo t.ep t.now p).2.2.2, 0⟩ := by unfold doT; rw [if_neg h0, if_pos h1]
    rw [e1, e2]
    obtain ⟨p', a, c, i, hs⟩ : ∃ p' a c i, serveP mo t.ep t.now p = (p', a, c, i) := ⟨_, _, _, _, rfl⟩
    obtain ⟨a1, a2⟩ := serve_row t.ep t.now _ _ _ _ hs
    rw [hs]
    refine ⟨fun h => absurd h h0, fun h => absurd h h0, fun _ => a1, fun _ _ _ n3 => a2 ?_⟩
    cases i with
    | false => rfl
    | true => exact absurd ⟨h1, rfl⟩ n3
  · exact ⟨fun h => absurd h h0, fun h => absurd h h0, fun h => absurd h h1, fun h2 _ _ _ => other_row idl t h0 h1 h2⟩
theorem Solo.waitingO (h : Solo w0 (PP b mo idl m p) N w) : Calls Try.prog 12 #[.pointer (some ⟨b, 0, none⟩)] w fun e w' => ∃ A n c, e = .returned (.slice A n c) ∧ w'.ownsRow w.heap.size 3 1 (.slice A n c) n (ivs p.row) ∧ n ≤ 12 ∧ Below w.heap.size w w' ∧ Solo w0 (PP b mo idl m p) (fun k => rowB A k ∨ N k) w' := by
  obtain ⟨S, hp, _⟩ := h.at_
  refine (pwaiting_own hp).mono ?_
  rintro e w' ⟨A, n, c, rfl, ho, hn, hb⟩
  exact ⟨A, n, c, rfl, ho, hn, hb, h.besides hb fun k hk => ho.lt k (rowB_own hk)⟩
end
theorem rowB_of {A : Option Addr} {n c k : Nat} (h : (Value.slice A n c).ownBlock = some k) : rowB A k := by
  cases A with
  | none => simp [Value.ownBlock] at h
  | some ad => exact ⟨ad, rfl, by simpa [Value.ownBlock] using h⟩
/-- a row beside it grows -/
theorem Solo.grown {w0 w w' : World} {X : Thing} {N : Nat → Prop} {A : Option Addr} {n c : Nat} (h : Solo w0 X N w) (hN : ∀ k, rowB A k → N k ∧ w0.heap.size ≤ k) (hg : w.grownBy w' (Value.slice A n c).ownBlock) : Solo w0 X N w' := by
  obtain ⟨⟨S, h1, h2⟩, h3, h4⟩ := h
  exact ⟨⟨S, X.keep h1 (fun k hk => hg.block k (X.lt h1 k hk) fun e => (h2 k hk).2 (hN k (rowB_of e.symm)).1) hg.size, h2⟩, h3.grown hg h3.size fun k hk => (hN k (rowB_of hk)).2, fun k hk => Nat.lt_of_lt_of_le (h4 k hk) hg.size⟩
theorem NR.grown {w w' : World} {A B : Option Addr} {n c m : Nat} {zs : List Int} (h : NR w B m zs) (hg : w.grownBy w' (Value.slice A n c).ownBlock) (hl : ∀ k, rowB B k → k < w.heap.size ∧ ¬ rowB A k) : NR w' B m zs :=
  h.kept hg.size fun k hk => hg.block k (hl k hk).1 fun e => (hl k hk).2 (rowB_of e.symm)

set_option maxHeartbeats 4000000 in
theorem wsameq_ok (A B : Option Addr) (n k c d : Nat) (xs ys : List Int) (w : World) (hx : NR w A n xs) (hy : NR w B k ys) (hn : n ≤ 1000) (hk : k ≤ 1000) (bo : Bool) (hbo : Hid (decide (xs = ys) = bo)) :
    Calls Try.prog 13 #[.slice A n c, .slice B k d] w fun e w' => e = .returned (.bool bo) ∧ ∃ m, w' = w.drewN m := by
  have HX := Lib.hid hx
  have HY := Lib.hid hy
  have hlx := hx.len
  have hly := hy.len
  clear hx hy
  by_cases hnk : n = k
  · subst hnk
    have HLX := Lib.hid hlx
    have HLY := Lib.hid hly
    clear hlx hly
    go_enter Try.func13, Try.ntmps13
    go_wp2_with fail
    go_loopw [5] (fun i wr => ∃ q : Nat, q ≤ n ∧ i = .int .i64 q ∧ Hid (∀ j (hj : j < xs.length) (hj2 : j < ys.length), j < q → xs[j] = ys[j]) ∧ Hid (∃ m, wr = w.drewN m)) (fun i _ => n - (intOf i).toNat)
    case atStart => exact ⟨0, Nat.zero_le _, rfl, Lib.hid (fun j _ _ h => absurd h (Nat.not_lt_zero _)), Lib.hid ⟨0, rfl⟩⟩
    case round =>
      obtain ⟨q, hq, rfl, he, hw0⟩ := hrel
      obtain ⟨mw, hmw⟩ := hw0.out
      have hw : Hid (Below w.heap.size w wr) := Lib.hid (by rw [hmw]; exact kp_drewN _ _)
      have HMW := Lib.hid hmw
      clear hmw hw0
      by_cases hlt : q < n
      · have hqx : q < xs.length := by rw [HLX.out]; exact hlt
        have hqy : q < ys.length := by rw [HLY.out]; exact hlt
        obtain ⟨ax, rfl, _, cx⟩ := HX.out.at_ hqx
        obtain ⟨ay, rfl, _, cy⟩ := HY.out.at_ hqy
        have d1 := cx wr hw.out
        have d2 := cy wr hw.out
        clear cx cy
        have hi0 : (0 : Int) ≤ (q : Int) := by omega
        have hi1 : (q : Int) < (n : Int) := by omega
        by_cases hxy : xs[q] = ys[q]
        · have hq1 : (xs[q] == ys[q]) = true := by rw [hxy]; simp
          have he2 : Hid (∀ j (hj : j < xs.length) (hj2 : j < ys.length), j < q + 1 → xs[j] = ys[j]) := Lib.hid fun j hj hj2 hjq => by
            by_cases h : j = q
            · subst h; exact hxy
            · exact he.out j hj hj2 (by omega)
          clear he hxy
          generalize xs[q] = x at *
          generalize ys[q] = y at *
          go_wp2_with fail
          go_quiet (fail)
          go_wp2_with fail
          go_roundw
          case rel => exact ⟨q + 1, by omega, by go_num, he2, Lib.hid ⟨_, by rw [HMW.out]; exact World.drewN_drewN _ _ _⟩⟩
          case measure => simp [intOf]; omega
        · have hq1 : (xs[q] == ys[q]) = false := by simpa using hxy
          have hb : bo = false := by
            rw [← hbo.out]
            exact decide_eq_false fun h => hxy (by subst h; rfl)
          subst hb
          clear he hxy
          generalize xs[q] = x at *
          generalize ys[q] = y at *
          go_wp2_with fail
          go_quiet (fail)
          go_wp2_with fail
          go_ret
          exact ⟨rfl, _, by rw [HMW.out]; exact World.drewN_drewN _ _ _⟩
      · obtain rfl : q = n := by omega
        have hb : bo = true := by
          rw [← hbo.out]
          exact decide_eq_true (List.ext_getElem (by rw [HLX.out, HLY.out]) fun j h1 h2 => he.out j h1 h2 (by have := HLX.out; omega))
        subst hb
        clear he
        go_wp2_with fail
        go_ret
        exact ⟨rfl, _, HMW.out⟩
  · have hb : bo = false := by
      rw [← hbo.out]
      exact decide_eq_false fun h => hnk (by subst h; omega)
    subst hb
    have hne : ((n : Int) == (k : Int)) = false := by simp; omega
    clear hlx hly hbo
    go_enter Try.func13, Try.ntmps13
    go_wp2_with fail
    go_ret
    exact ⟨rfl, 0, rfl⟩
end

/- PoolFair, of layer 10: the walk. -/
section
open Go.RowKit
set_option maxRecDepth 100000

set_option maxHeartbeats 32000000 in
theorem poolfair_walk (mo m : Int) (A1 : Option Addr) (l1 c1 : Nat) (ts : List Act6) (W : World) (r1 : AZ W A1 l1 ts) :
    Calls Try.prog 4 #[.int .i64 mo, .int .i64 m, .slice A1 l1 c1] W fun e w' => e = .returned (.bool true) ∧ Below W.heap.size W w' := by
  have HAW := Lib.hid (awake10_ok W)
  have R1 := Lib.hid r1
  have HN1 := Lib.hid r1.len
  clear r1
  go_enter Try.func4, Try.ntmps4
  go_wp2_with fail
  refine HAW.out.mono ?_
  rintro e w1 ⟨rfl, k1⟩
  have HK1 := Lib.hid k1
  clear HAW k1
  by_cases hg : 1 ≤ mo ∧ mo ≤ 6 ∧ 0 ≤ m ∧ m ≤ 12 ∧ (1 : Int) ≠ 0
  rotate_left
  · have HB := Lib.hid (ppnew_bad mo m (1 : Int) w1 hg)
    clear hg
    go_wp2_with fail
    refine HB.out.mono ?_
    rintro e w2 ⟨rfl, rfl⟩
    clear HB
    go_wp2_with fail
    go_ret
    exact ⟨rfl, HK1.out⟩
  obtain ⟨g1, g2, g3, g4, g5⟩ := hg
  have HP1 := Lib.hid (ppnew_good mo m (1 : Int) w1 g1 g2 g3 g4 g5)
  have HK0 := Lib.hid (KInv.new (mo := mo) (m := m) (by omega) g3)
  clear g5
  go_wp2_with fail
  refine HP1.out.mono ?_
  rintro e w2 ⟨b, S2, rfl, p2, q2, k2⟩
  have HS2 : Hid (Solo W (PP b mo (1 : Int) m ⟨[], [], 0⟩) noneB w2) := Lib.hid (Solo.make HK1.out p2 q2 k2)
  clear p2 q2 k2 HP1 HK1
  by_cases hbig : 100 < l1
  · have hb : (100 : Int) < (l1 : Int) := by omega
    have HLW := Lib.hid HS2.out.low
    clear hbig HS2
    go_wp2_with fail
    go_ret
    exact ⟨rfl, HLW.out⟩
  have hl1 : l1 ≤ 100 := by omega
  have hbl1 : ¬ (100 : Int) < (l1 : Int) := by omega
  clear hbig
  obtain ⟨i0, hi, hz0, hz1, hz2⟩ := info_parts intinfo8
  go_wp2_with fail
  go_loopw [31] (fun i wr => ∃ (k : Nat) (p : Pl), k ≤ l1 ∧ i = .int .i64 k ∧ Hid (KInv mo m k p) ∧ Hid (Solo W (PP b mo 1 m p) noneB wr)) (fun i _ => l1 - (intOf i).toNat)
  case atStart => exact ⟨0, _, Nat.zero_le _, rfl, HK0, HS2⟩
  case round =>
    obtain ⟨k, p, hk, rfl, HK, hD⟩ := hrel
    by_cases hlt : k < l1
    · have hkl : k < ts.length := by rw [HN1.out]; exact hlt
      obtain ⟨ad, rfl, _, hcc⟩ := R1.out.at_ hkl
      obtain ⟨x0, x1, x2, x3, x4, x5⟩ := hcc wr hD.out.low
      clear hcc HS2 HK0
      generalize ts[k] = t at *
      have HKN := Lib.hid (HK.out.do (by omega) 1 t)
      have HF0 := fair HK.out (by omega) 1 t
      obtain ⟨d, ss, id, ep, now, n⟩ := t
      dsimp only at x0 x1 x2 x3 x4 x5
      have HDX := Lib.hid (hD.out.mark (.cells #[.int .i64 d, .int .i64 ss, .int .i64 id, .int .u64 ep, .int .u64 now, .int .u64 n] 30))
      have HCN := Lib.hid HDX.out.waitingO
      have hba := heap_alloc_new wr (.cells #[.int .i64 d, .int .i64 ss, .int .i64 id, .int .u64 ep, .int .u64 now, .int .u64 n] 30)
      have hsa : (wr.alloc (.cells #[.int .i64 d, .int .i64 ss, .int .i64 id, .int .u64 ep, .int .u64 now, .int .u64 n] 30)).heap.size = wr.heap.size + 1 := by simp
      have HWZ := Lib.hid hD.out.low.size
      obtain ⟨bx, hbx⟩ : ∃ z, wr.heap.size = z := ⟨_, rfl⟩
      have HBX := Lib.hid hbx
      obtain ⟨wx, hwx⟩ : ∃ u, wr.alloc (.cells #[.int .i64 d, .int .i64 ss, .int .i64 id, .int .u64 ep, .int .u64 now, .int .u64 n] 30) = u := ⟨_, rfl⟩
      rw [hwx] at HCN hba hsa
      rw [hbx] at HCN hba hsa HWZ
      have HWX := Lib.hid hwx
      have HBA := Lib.hid hba
      have HSA := Lib.hid hsa
      clear HDX hwx hba hsa hbx hD
      go_wp2_with fail
      rw [HWX.out]
      refine HCN.out.mono ?_
      rintro e w3 ⟨A3, n3, c3, rfl, ho3, hn3, hb3, hs3⟩
      have HO3 := Lib.hid ho3
      have HDO := Lib.hid (hs3.act (⟨d, ss, id, ep, now, n⟩ : Act6) HK.out (by omega))
      have hx3 := (hb3.block bx (by have := HSA.out; omega)).trans HBA.out
      have HX3 := Lib.hid hx3
      have hlx : bx < w3.heap.size := by have := HSA.out; have := hb3.size; omega
      have HLX := Lib.hid hlx
      have HZ3 := Lib.hid hb3.size
      obtain ⟨y0, _⟩ := cellsAt hx3 0 (v := .int .i64 d) rfl
      obtain ⟨y1, _⟩ := cellsAt hx3 1 (v := .int .i64 ss) rfl
      obtain ⟨y2, _⟩ := cellsAt hx3 2 (v := .int .i64 id) rfl
      obtain ⟨y3, _⟩ := cellsAt hx3 3 (v := .int .u64 ep) rfl
      obtain ⟨y4, _⟩ := cellsAt hx3 4 (v := .int .u64 now) rfl
      obtain ⟨y5, _⟩ := cellsAt hx3 5 (v := .int .u64 n) rfl
      clear ho3 hb3 hs3 hx3 hlx HCN HBA
      dsimp only at HDO
      rw [HBX.out]
      clear HBX HWX
      go_wp2_with fail
      refine HDO.out.mono ?_
      rintro e w4 ⟨rfl, hs4, hk4, hz4⟩
      have ho4 := own_kept HO3.out fun k hk => hk4 k (.inl hk)
      have hx4 := (hk4 bx (.inr (.inl rfl))).trans HX3.out
      have hl4 : bx < w4.heap.size := by have := HLX.out; omega
      generalize hp4 : doP mo 1 m (⟨d, ss, id, ep, now, n⟩ : Act6) p = p4 at *
      generalize hT : doT mo 1 m (⟨d, ss, id, ep, now, n⟩ : Act6) p = T at *
      obtain ⟨ta, tb, tn, ti, te⟩ := T
      have HF := Lib.hid HF0
      clear HF0
      unfold told6V
      dsimp only
      have HM := Lib.hid (hs4.mark (.cells #[.int .i64 ta, .int .i64 tb, .int .u64 tn, .bool ti, .int .i64 te] 32))
      have hom := ho4.alloc (.cells #[.int .i64 ta, .int .i64 tb, .int .u64 tn, .bool ti, .int .i64 te] 32)
      have hxm := (heap_alloc_old w4 (.cells #[.int .i64 ta, .int .i64 tb, .int .u64 tn, .bool ti, .int .i64 te] 32) hl4).trans hx4
      have htm := heap_alloc_new w4 (.cells #[.int .i64 ta, .int .i64 tb, .int .u64 tn, .bool ti, .int .i64 te] 32)
      have hsm : (w4.alloc (.cells #[.int .i64 ta, .int .i64 tb, .int .u64 tn, .bool ti, .int .i64 te] 32)).heap.size = w4.heap.size + 1 := by simp
      have HCN := Lib.hid HM.out.waitingO
      have HZ4 := Lib.hid (show w3.heap.size ≤ w4.heap.size from hz4)
      obtain ⟨bt, hbt⟩ : ∃ z, w4.heap.size = z := ⟨_, rfl⟩
      have HBT := Lib.hid hbt
      obtain ⟨wm, hwm⟩ : ∃ u, w4.alloc (.cells #[.int .i64 ta, .int .i64 tb, .int .u64 tn, .bool ti, .int .i64 te] 32) = u := ⟨_, rfl⟩
      rw [hwm] at HCN hom hxm htm hsm
      rw [hbt] at HCN htm hsm HZ4
      have HWM := Lib.hid hwm
      clear hs4 hk4 hz4 HDO HX3 HLX y0 y1 y2 y3 y4 y5 hp4 hT ho4 hx4 HM hwm
      have HOM := Lib.hid hom
      have HXM := Lib.hid hxm
      have HTM := Lib.hid htm
      have HSM := Lib.hid hsm
      rw [hbt] at hl4
      have HL4 := Lib.hid hl4
      have hlt3 : ∀ k, rowB A3 k → wx.heap.size ≤ k ∧ k < wm.heap.size := fun k hk => hom.lt k (rowB_own hk)
      have HLT3 : Hid (∀ k, rowB A3 k → W.heap.size ≤ k ∧ k < w3.heap.size) := Lib.hid fun k hk => ⟨by have := (hlt3 k hk).1; have := HSA.out; have := HWZ.out; omega, (HO3.out.lt k (rowB_own hk)).2⟩
      clear hom hxm htm hsm hbt hl4 hlt3
      go_wp2_with fail
      rw [HWM.out]
      refine HCN.out.mono ?_
      rintro e w5 ⟨A5, n5, c5, rfl, ho5, hn5, hb5, hs5⟩
      have HO5 := Lib.hid (own_below_s HOM.out hb5 (Nat.le_refl _))
      have HR3 := Lib.hid (NR.of_own HO5.out)
      have HR5 := Lib.hid (NR.of_own ho5)
      have HLT5 : Hid (∀ k, rowB A5 k → w3.heap.size ≤ k ∧ k < w5.heap.size) := Lib.hid fun k hk => by have := ho5.lt k (rowB_own hk); have := HSM.out; have := HZ4.out; omega
      have hx5 := (hb5.block bx (by have := HSM.out; have := HL4.out; omega)).trans HXM.out
      have ht5 := (hb5.block bt (by have := HSM.out; omega)).trans HTM.out
      have hlx : bx < w5.heap.size := by have := HSM.out; have := HL4.out; have := hb5.size; omega
      have hlt5 : bt < w5.heap.size := by have := HSM.out; have := hb5.size; omega
      have hz5 : wx.heap.size ≤ w5.heap.size := by have := HSM.out; have := HZ3.out; have := HZ4.out; have := hb5.size; omega
      obtain ⟨y0, _⟩ := cellsAt hx5 0 (v := .int .i64 d) rfl
      obtain ⟨y1, _⟩ := cellsAt hx5 1 (v := .int .i64 ss) rfl
      obtain ⟨t0, _⟩ := cellsAt ht5 0 (v := .int .i64 ta) rfl
      obtain ⟨t3, _⟩ := cellsAt ht5 3 (v := .bool ti) rfl
      obtain ⟨t4, _⟩ := cellsAt ht5 4 (v := .int .i64 te) rfl
      have HSN := Lib.hid hs5
      have HS5 := Lib.hid (hs5.less (N' := noneB) fun _ h => h.elim)
      have HL3 := Lib.hid (show p.row.length = n3 from HR3.out.len)
      have HL5 := Lib.hid (show p4.row.length = n5 from HR5.out.len)
      rw [HBT.out]
      clear ho5 hb5 hs5 hx5 ht5 HCN HOM HXM HTM HSM HL4 HWM HBT
      by_cases hd0 : d = 0
      · have e0 : (d == 0) = true := by simp [hd0]
        have e1 : (d == 1) = false := by simp [hd0]
        have e2 : (d != 2) = true := by simp [hd0]
        by_cases hte : te = 0
        · have f0 : (te == 0) = true := by simp [hte]
          obtain ⟨a1, a2, a3⟩ := HF.out.ok hd0 hte
          have hn0 : n3 = 0 := by rw [← HL3.out, a1]; rfl
          have hn1 : n5 = 0 := by rw [← HL5.out, a2]; rfl
          have hta : ¬ ta < 1 := by have : 1 ≤ ta := a3; omega
          subst hn0 hn1
          clear HF hd0 hte a1 a2 a3 HSN HO5 HLT3 HLT5
          go_wp2_with fail
          go_roundw
          case rel => exact ⟨k + 1, p4, by omega, by go_num, HKN, HS5⟩
          case measure => simp [intOf]; omega
        · have f0 : (te == 0) = false := by simp [hte]
          by_cases hte2 : te = 13
          · have f1 : (te == 13) = true := by simp [hte2]
            have hrow := HF.out.queue hd0 hte2
            dsimp only at hrow
            have HROW := Lib.hid hrow
            have HO6 := Lib.hid (HO5.out.alloc (.cells #[.int .i64 ss] 3))
            have HR1 : Hid (Rd (w5.alloc (.cells #[.int .i64 ss] 3)) (w5.heap.size + 1) (some ⟨w5.heap.size, 0, none⟩) [.int .i64 ss]) := Lib.hid (Rd.new w5 3 [.int .i64 ss])
            have HS1 : Hid (wx.heap.size ≤ (w5.alloc (.cells #[.int .i64 ss] 3)).heap.size) := Lib.hid (by simp; omega)
            have HSX := Lib.hid (HSN.out.next (kp_new w5 (.cells #[.int .i64 ss] 3)))
            have HRX := Lib.hid (HR5.out.next (kp_new w5 (.cells #[.int .i64 ss] 3)))
            have HLX : Hid (∀ k, rowB A5 k → k < (w5.alloc (.cells #[.int .i64 ss] 3)).heap.size ∧ ¬ rowB A3 k) := Lib.hid fun k hk => by
              obtain ⟨q1, q2⟩ := HLT5.out k hk
              refine ⟨by simp; omega, fun h3 => ?_⟩
              have := (HLT3.out k h3).2
              omega
            have hv6 : ivs p.row ++ [.int .i64 ss] = ivs (p.row ++ [ss]) := by simp [ivs]
            have HV6 := Lib.hid hv6
            clear HF hd0 hte hte2 hrow hv6 HO5 HSN HS5
            go_wp2_with (at_builtin; refine wpList_append_rd rfl _ _ _ rfl wx.heap.size 3 i0 _ 8 Try.underlying36 hi hz0 hz1 hz2 rfl _ n3 _ rfl HO6.out _ _ _ _ [.int .i64 ss] rfl rfl HR1.out (by simp [Value.oneCell']) (by unfold maxLen; omega) (by omega) HS1.out ?_; intro v6 w6 hown6 hg6; rw [HV6.out] at hown6; obtain ⟨A6, c6, rfl, _, _⟩ := own_form hown6; have HN6 := Lib.hid (NR.of_own hown6); have HS6 := Lib.hid ((HSX.out.grown (fun k hk => ⟨.inr (.inr (.inl hk)), (HLT3.out k hk).1⟩) hg6).less (N' := noneB) fun _ h => h.elim); have HR6 := Lib.hid (HRX.out.grown hg6 HLX.out); clear hown6 hg6)
            have HSM := Lib.hid (wsame_ok A5 A6 n5 (n3 + 1) c5 c6 _ _ w6 HR6.out HN6.out (by omega) (by omega) true (Lib.hid (by rw [HROW.out]; simp)))
            refine HSM.out.mono ?_
            rintro e w7 ⟨rfl, _, hb7⟩
            have HS7 := Lib.hid (HS6.out.next hb7)
            clear hb7 HSM HS6
            go_wp2_with fail
            go_roundw
            case rel => exact ⟨k + 1, p4, by omega, by go_num, HKN, HS7⟩
            case measure => simp [intOf]; omega
          · have f1 : (te == 13) = false := by simp [hte2]
            have hrow := HF.out.same (by show d ≠ 2; omega) (fun h => hte h.2) (fun h => hte2 h.2) (fun h => by have h1 : d = 1 := h.1; omega)
            clear HF hd0 hte hte2 HSN HO5 HLT3 HLT5
            have HSM := Lib.hid (wsame_ok A3 A5 n3 n5 c3 c5 _ _ w5 HR3.out HR5.out (by omega) (by omega) true (Lib.hid (by rw [hrow]; simp)))
            clear hrow
            go_wp2_with fail
            refine HSM.out.mono ?_
            rintro e w6 ⟨rfl, _, hb6⟩
            have HS6 := Lib.hid (HS5.out.next hb6)
            clear hb6 HSM
            go_wp2_with fail
            go_roundw
            case rel => exact ⟨k + 1, p4, by omega, by go_num, HKN, HS6⟩
            case measure => simp [intOf]; omega
      · have e0 : (d == 0) = false := by simp [hd0]
        by_cases hd1 : d = 1
        · have e1 : (d == 1) = true := by simp [hd1]
          have e2 : (d != 2) = true := by simp [hd1]
          cases ti with
          | true =>
            have hrow := HF.out.got hd1 rfl
            dsimp only at hrow
            obtain rfl : n3 = n5 + 1 := by rw [← HL3.out, ← HL5.out, hrow]; rfl
            have HEQ : Hid (decide (p4.row = p.row.drop 1) = true) := Lib.hid (by rw [hrow]; simp)
            obtain ⟨ad3, rfl, _, hc3⟩ := HR3.out.at_ (j := 0) (by rw [HL3.out]; omega)
            have hc0 := hc3 w5 (Below.refl _ _)
            have hg0 : p.row[0]'(by rw [HL3.out]; omega) = ta := by simp [hrow]
            rw [hg0] at hc0
            have had0 : ad3.add 0 = ad3 := by unfold Addr.add; split <;> simp_all
            have hc1 := hc0
            rw [had0] at hc1
            have hz3 : (((n5 + 1 : Nat) : Int) == 0) = false := by simp; omega
            obtain ⟨Ac, hcut, hns⟩ := (NS.of_own HO5.out).cut1 Try.prog 36 (by kernel_rfl) (by kernel_rfl) (i := 1) 1 rfl (by omega)
            rw [Nat.add_sub_cancel] at hcut hns
            have HNC := Lib.hid hns.nr
            clear HF hd0 hd1 HSN HO5 HLT3 HLT5 hrow hc3 hg0 hns
            go_wp2_with fail
            go_quiet (first | (go_at_call 13; exact Calls.quiet_of (wsameq_ok A5 Ac n5 n5 c5 (c3 - 1) p4.row (p.row.drop 1) _ (HR5.out.next (kp_drewN _ _)) (HNC.out.next (kp_drewN _ _)) (by omega) (by omega) true HEQ)))
            have HS6 := Lib.hid (HS5.out.next (kp_drewN w5 nq))
            go_wp2_with fail
            go_roundw
            case rel => exact ⟨k + 1, p4, by omega, by go_num, HKN, HS6⟩
            case measure => simp [intOf]; omega
          | false =>
            have hrow := HF.out.same (by show d ≠ 2; omega) (fun h => hd0 h.1) (fun h => hd0 h.1) (fun h => by cases h.2)
            clear HF hd0 hd1 HSN HO5 HLT3 HLT5
            have HSM := Lib.hid (wsame_ok A3 A5 n3 n5 c3 c5 _ _ w5 HR3.out HR5.out (by omega) (by omega) true (Lib.hid (by rw [hrow]; simp)))
            clear hrow
            go_wp2_with fail
            refine HSM.out.mono ?_
            rintro e w6 ⟨rfl, _, hb6⟩
            have HS6 := Lib.hid (HS5.out.next hb6)
            clear hb6 HSM
            go_wp2_with fail
            go_roundw
            case rel => exact ⟨k + 1, p4, by omega, by go_num, HKN, HS6⟩
            case measure => simp [intOf]; omega
        · have e1 : (d == 1) = false := by simp [hd1]
          by_cases hd2 : d = 2
          · have e2 : (d != 2) = false := by simp [hd2]
            clear HF hd0 hd1 hd2 HSN HO5 HLT3 HLT5
            go_wp2_with fail
            go_roundw
            case rel => exact ⟨k + 1, p4, by omega, by go_num, HKN, HS5⟩
            case measure => simp [intOf]; omega
          · have e2 : (d != 2) = true := by simp [hd2]
            have hrow := HF.out.same hd2 (fun h => hd0 h.1) (fun h => hd0 h.1) (fun h => hd1 h.1)
            clear HF hd0 hd1 hd2 HSN HO5 HLT3 HLT5
            have HSM := Lib.hid (wsame_ok A3 A5 n3 n5 c3 c5 _ _ w5 HR3.out HR5.out (by omega) (by omega) true (Lib.hid (by rw [hrow]; simp)))
            clear hrow
            go_wp2_with fail
            refine HSM.out.mono ?_
            rintro e w6 ⟨rfl, _, hb6⟩
            have HS6 := Lib.hid (HS5.out.next hb6)
            clear hb6 HSM
            go_wp2_with fail
            go_roundw
            case rel => exact ⟨k + 1, p4, by omega, by go_num, HKN, HS6⟩
            case measure => simp [intOf]; omega
    · have HLW := Lib.hid hD.out.low
      clear hD HS2 HK0
      go_wp2_with fail
      go_ret
      exact ⟨rfl, HLW.out⟩
end
end Go.Proofs.Ytkbaljdpnopbmaa
