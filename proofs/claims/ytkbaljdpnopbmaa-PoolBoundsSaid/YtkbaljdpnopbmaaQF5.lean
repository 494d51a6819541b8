/-
  Contracts and plain functions that the law stands on, part 5 of 5.
-/
import Derived.Test.YtkbaljdpnopbmaaQF4
namespace Go.Proofs.Ytkbaljdpnopbmaa
/- Layer 10's laws: the row behind an act; rows of who waits that the call owns. -/
section
open Go.RowKit
set_option maxRecDepth 100000
theorem own_kept {w w' : World} {base n c size : Nat} {e : TypeId} {A : Option Addr} {xs : List Value} (h : w.ownsRow base e size (.slice A n c) n xs) (hk : ∀ k, rowB A k → w'.heap[k]? = w.heap[k]?) : w'.ownsRow base e size (.slice A n c) n xs := by
  obtain ⟨h1, h2⟩ := h
  refine ⟨h1, ?_⟩
  rcases h2 with h | ⟨g, cap, cur, hv, hg, hh, r⟩
  · exact .inl h
  · injection hv with hA _ _
    exact .inr ⟨g, cap, cur, by rw [hA]; congr, hg, (hk g ⟨_, hA, rfl⟩).trans hh, r⟩
theorem put_facts (m x : Int) (l : List Int) : ((putW m x l).1 = 0 ∧ (putW m x l).2 = l ++ [x]) ∨ (((putW m x l).1 = 7 ∨ (putW m x l).1 = 5) ∧ (putW m x l).2 = l) := by
  unfold putW
  split
  · exact .inr ⟨.inl rfl, rfl⟩
  split
  · exact .inr ⟨.inr rfl, rfl⟩
  · exact .inl ⟨rfl, rfl⟩
/-- the row behind an act -/
structure Fair (t : Act6) (p p' : Pl) (T : Told6) : Prop where
  ok : t.d = 0 → T.e = 0 → p.row = [] ∧ p'.row = [] ∧ 1 ≤ T.a
  queue : t.d = 0 → T.e = 13 → p'.row = p.row ++ [t.ss]
  got : t.d = 1 → T.i = true → p.row = T.a :: p'.row
  same : t.d ≠ 2 → ¬ (t.d = 0 ∧ T.e = 0) → ¬ (t.d = 0 ∧ T.e = 13) → ¬ (t.d = 1 ∧ T.i = true) → p'.row = p.row
section
variable {b : Nat} {mo idl m : Int} {k : Nat} {p : Pl} {S : Nat → Prop} {w w0 : World} {N : Nat → Prop}
theorem acq_row (hk : KInv mo m k p) (h1000 : k ≤ 1000) (ss ep now : Int) (p' : Pl) (a e : Int) (h : acqP mo m ss ep now p = (p', a, e)) :
    (e = 0 → p.row = [] ∧ p'.row = [] ∧ 1 ≤ a) ∧ (e = 13 → p'.row = p.row ++ [ss]) ∧ (e ≠ 0 → e ≠ 13 → p'.row = p.row) := by
  have hq : ∀ q : Pl, q.row = p.row → ((queueP m ss q).2 ≠ 0) ∧ ((queueP m ss q).2 = 13 → (queueP m ss q).1.row = p.row ++ [ss]) ∧ ((queueP m ss q).2 ≠ 13 → (queueP m ss q).1.row = p.row) := fun q hqr => by
    unfold queueP
    rw [hqr]
    rcases put_facts m ss p.row with ⟨h1, h2⟩ | ⟨h1, h2⟩
    · refine ⟨by show (if _ then _ else _ : Int) ≠ 0; rw [if_pos h1]; omega, fun _ => h2, fun h => absurd (by rw [if_pos h1]) h⟩
    · have h0 : (putW m ss p.row).1 ≠ 0 := by rcases h1 with h | h <;> omega
      refine ⟨by rw [if_neg h0]; exact h0, fun h => ?_, fun _ => h2⟩
      rw [if_neg h0] at h
      rcases h1 with h1 | h1 <;> omega
  unfold acqP at h
  split at h
  · injection h with h1 h2; injection h2 with h2 h3; subst h1 h2 h3
    exact ⟨by omega, by omega, fun _ _ => rfl⟩
  split at h
  · injection h with h1 h2; injection h2 with h2 h3; subst h1 h2 h3
    exact ⟨by omega, by omega, fun _ _ => rfl⟩
  split at h
  · injection h with h1 h2; injection h2 with h2 h3; subst h1 h2 h3
    exact ⟨by omega, by omega, fun _ _ => rfl⟩
  split at h
  · rename_i hr
    split at h
    · rename_i hg
      injection h with h1 h2; injection h2 with h2 h3; subst h1 h2 h3
      refine ⟨fun _ => ⟨hr, ?_, (giveI_pos hk h1000 ep).1 hg⟩, by omega, by omega⟩
      rw [giveP_rowP]
      exact hr
    · injection h with h1 h2; injection h2 with h2 h3; subst h1 h2 h3
      obtain ⟨a1, a2, a3⟩ := hq (giveP mo ss ep now p) (giveP_rowP _ _ _ _ _)
      exact ⟨fun e => absurd e a1, a2, fun _ => a3⟩
  · injection h with h1 h2; injection h2 with h2 h3; subst h1 h2 h3
    obtain ⟨a1, a2, a3⟩ := hq p rfl
    exact ⟨fun e => absurd e a1, a2, fun _ => a3⟩
theorem serve_row (ep now : Int) (p' : Pl) (a c : Int) (i : Bool) (h : serveP mo ep now p = (p', a, c, i)) : (i = true → p.row = a :: p'.row) ∧ (i = false → p'.row = p.row) := by
  unfold serveP at h
  split at h
  · rename_i hr
    injection h with h1 h2; injection h2 with h2 h3; injection h3 with h3 h4; subst h1 h2 h3 h4
    exact ⟨by simp, fun _ => rfl⟩
  · rename_i ss r hr
    split at h
    · injection h with h1 h2; injection h2 with h2 h3; injection h3 with h3 h4; subst h1 h2 h3 h4
      exact ⟨fun _ => hr, by simp⟩
    · injection h with h1 h2; injection h2 with h2 h3; injection h3 with h3 h4; subst h1 h2 h3 h4
      exact ⟨by simp, fun _ => giveP_rowP _ _ _ _ _⟩
theorem other_row (idl : Int) (t : Act6) (h0 : t.d ≠ 0) (h1 : t.d ≠ 1) (h2 : t.d ≠ 2) : (doP mo idl m t p).row = p.row := by
  unfold doP
  rw [if_neg h0, if_neg h1, if_neg h2]
  split
  · unfold sendP; split <;> rfl
  split
  · unfold replyP; split <;> rfl
  split
  · unfold soilP; split <;> rfl
  split
  · unfold releaseP
    split
    · rfl
    split <;> rfl
  split
  · unfold breakP; split <;> rfl
  split
  · rfl
  split
  · rfl
  · rfl
theorem fair (hk : KInv mo m k p) (h1000 : k ≤ 1000) (idl : Int) (t : Act6) : Fair t p (doP mo idl m t p) (doT mo idl m t p) := by
  by_cases h0 : t.d = 0
  · have e1 : doP mo idl m t p = (acqP mo m t.ss t.ep t.now p).1 := by unfold doP; rw [if_pos h0]
    have e2 : doT mo idl m t p = ⟨(acqP mo m t.ss t.ep t.now p).2.1, 0, 0, false, (acqP mo m t.ss t.ep t.now p).2.2⟩ := by unfold doT; rw [if_pos h0]
    obtain ⟨a1, a2, a3⟩ := acq_row hk h1000 t.ss t.ep t.now _ _ _ rfl
    rw [e1, e2]
    exact ⟨fun _ => a1, fun _ => a2, fun h => by omega, fun _ n1 n2 _ => a3 (fun e => n1 ⟨h0, e⟩) fun e => n2 ⟨h0, e⟩⟩
  by_cases h1 : t.d = 1
  · have e1 : doP mo idl m t p = (serveP mo t.ep t.now p).1 := by unfold doP; rw [if_neg h0, if_pos h1]
    have e2 : doT mo idl m t p = ⟨(serveP mo t.ep t.now p).2.1, (serveP mo t.ep t.now p).2.2.1, 0, (serveP mo t.ep t.now p).2.2.2, 0⟩ := by unfold doT; rw [if_neg h0, if_pos h1]
    rw [e1, e2]
    obtain ⟨p', a, c, i, hs⟩ : ∃ p' a c i, serveP mo t.ep t.now p = (p', a, c, i) := ⟨_, _, _, _, rfl⟩
    obtain ⟨a1, a2⟩ := serve_row t.ep t.now _ _ _ _ hs
    rw [hs]
    refine ⟨fun h => absurd h h0, fun h => absurd h h0, fun _ => a1, fun _ _ _ n3 => a2 ?_⟩
    cases i with
    | false => rfl
    | true => exact absurd ⟨h1, rfl⟩ n3
  · exact ⟨fun h => absurd h h0, fun h => absurd h h0, fun h => absurd h h1, fun h2 _ _ _ => other_row idl t h0 h1 h2⟩
theorem Solo.waitingO (h : Solo w0 (PP b mo idl m p) N w) : Calls Try.prog 12 #[.pointer (some ⟨b, 0, none⟩)] w fun e w' => ∃ A n c, e = .returned (.slice A n c) ∧ w'.ownsRow w.heap.size 3 1 (.slice A n c) n (ivs p.row) ∧ n ≤ 12 ∧ Below w.heap.size w w' ∧ Solo w0 (PP b mo idl m p) (fun k => rowB A k ∨ N k) w' := by
  obtain ⟨S, hp, _⟩ := h.at_
  refine (pwaiting_own hp).mono ?_
  rintro e w' ⟨A, n, c, rfl, ho, hn, hb⟩
  exact ⟨A, n, c, rfl, ho, hn, hb, h.besides hb fun k hk => ho.lt k (rowB_own hk)⟩
end
theorem rowB_of {A : Option Addr} {n c k : Nat} (h : (Value.slice A n c).ownBlock = some k) : rowB A k := by
  cases A with
  | none => simp [Value.ownBlock] at h
  | some ad => exact ⟨ad, rfl, by simpa [Value.ownBlock] using h⟩
/-- a row beside it grows -/
theorem Solo.grown {w0 w w' : World} {X : Thing} {N : Nat → Prop} {A : Option Addr} {n c : Nat} (h : Solo w0 X N w) (hN : ∀ k, rowB A k → N k ∧ w0.heap.size ≤ k) (hg : w.grownBy w' (Value.slice A n c).ownBlock) : Solo w0 X N w' := by
  obtain ⟨⟨S, h1, h2⟩, h3, h4⟩ := h
  exact ⟨⟨S, X.keep h1 (fun k hk => hg.block k (X.lt h1 k hk) fun e => (h2 k hk).2 (hN k (rowB_of e.symm)).1) hg.size, h2⟩, h3.grown hg h3.size fun k hk => (hN k (rowB_of hk)).2, fun k hk => Nat.lt_of_lt_of_le (h4 k hk) hg.size⟩
theorem NR.grown {w w' : World} {A B : Option Addr} {n c m : Nat} {zs : List Int} (h : NR w B m zs) (hg : w.grownBy w' (Value.slice A n c).ownBlock) (hl : ∀ k, rowB B k → k < w.heap.size ∧ ¬ rowB A k) : NR w' B m zs :=
  h.kept hg.size fun k hk => hg.block k (hl k hk).1 fun e => (hl k hk).2 (rowB_of e.symm)

set_option maxHeartbeats 4000000 in
theorem wsameq_ok (A B : Option Addr) (n k c d : Nat) (xs ys : List Int) (w : World) (hx : NR w A n xs) (hy : NR w B k ys) (hn : n ≤ 1000) (hk : k ≤ 1000) (bo : Bool) (hbo : Hid (decide (xs = ys) = bo)) :
    Calls Try.prog 13 #[.slice A n c, .slice B k d] w fun e w' => e = .returned (.bool bo) ∧ ∃ m, w' = w.drewN m := by
  have HX := Lib.hid hx
  have HY := Lib.hid hy
  have hlx := hx.len
  have hly := hy.len
  clear hx hy
  by_cases hnk : n = k
  · subst hnk
    have HLX := Lib.hid hlx
    have HLY := Lib.hid hly
    clear hlx hly
    go_enter Try.func13, Try.ntmps13
    go_wp2_with fail
    go_loopw [5] (fun i wr => ∃ q : Nat, q ≤ n ∧ i = .int .i64 q ∧ Hid (∀ j (hj : j < xs.length) (hj2 : j < ys.length), j < q → xs[j] = ys[j]) ∧ Hid (∃ m, wr = w.drewN m)) (fun i _ => n - (intOf i).toNat)
    case atStart => exact ⟨0, Nat.zero_le _, rfl, Lib.hid (fun j _ _ h => absurd h (Nat.not_lt_zero _)), Lib.hid ⟨0, rfl⟩⟩
    case round =>
      obtain ⟨q, hq, rfl, he, hw0⟩ := hrel
      obtain ⟨mw, hmw⟩ := hw0.out
      have hw : Hid (Below w.heap.size w wr) := Lib.hid (by rw [hmw]; exact kp_drewN _ _)
      have HMW := Lib.hid hmw
      clear hmw hw0
      by_cases hlt : q < n
      · have hqx : q < xs.length := by rw [HLX.out]; exact hlt
        have hqy : q < ys.length := by rw [HLY.out]; exact hlt
        obtain ⟨ax, rfl, _, cx⟩ := HX.out.at_ hqx
        obtain ⟨ay, rfl, _, cy⟩ := HY.out.at_ hqy
        have d1 := cx wr hw.out
        have d2 := cy wr hw.out
        clear cx cy
        have hi0 : (0 : Int) ≤ (q : Int) := by omega
        have hi1 : (q : Int) < (n : Int) := by omega
        by_cases hxy : xs[q] = ys[q]
        · have hq1 : (xs[q] == ys[q]) = true := by rw [hxy]; simp
          have he2 : Hid (∀ j (hj : j < xs.length) (hj2 : j < ys.length), j < q + 1 → xs[j] = ys[j]) := Lib.hid fun j hj hj2 hjq => by
            by_cases h : j = q
            · subst h; exact hxy
            · exact he.out j hj hj2 (by omega)
          clear he hxy
          generalize xs[q] = x at *
          generalize ys[q] = y at *
          go_wp2_with fail
          go_quiet (fail)
          go_wp2_with fail
          go_roundw
          case rel => exact ⟨q + 1, by omega, by go_num, he2, Lib.hid ⟨_, by rw [HMW.out]; exact World.drewN_drewN _ _ _⟩⟩
          case measure => simp [intOf]; omega
        · have hq1 : (xs[q] == ys[q]) = false := by simpa using hxy
          have hb : bo = false := by
            rw [← hbo.out]
            exact decide_eq_false fun h => hxy (by subst h; rfl)
          subst hb
          clear he hxy
          generalize xs[q] = x at *
          generalize ys[q] = y at *
          go_wp2_with fail
          go_quiet (fail)
          go_wp2_with fail
          go_ret
          exact ⟨rfl, _, by rw [HMW.out]; exact World.drewN_drewN _ _ _⟩
      · obtain rfl : q = n := by omega
        have hb : bo = true := by
          rw [← hbo.out]
          exact decide_eq_true (List.ext_getElem (by rw [HLX.out, HLY.out]) fun j h1 h2 => he.out j h1 h2 (by have := HLX.out; omega))
        subst hb
        clear he
        go_wp2_with fail
        go_ret
        exact ⟨rfl, _, HMW.out⟩
  · have hb : bo = false := by
      rw [← hbo.out]
      exact decide_eq_false fun h => hnk (by subst h; omega)
    subst hb
    have hne : ((n : Int) == (k : Int)) = false := by simp; omega
    clear hlx hly hbo
    go_enter Try.func13, Try.ntmps13
    go_wp2_with fail
    go_ret
    exact ⟨rfl, 0, rfl⟩
end

/- PoolBounds, of layer 10: the walk. -/
section
open Go.RowKit
set_option maxRecDepth 100000

theorem PInv.apart {mo m : Int} {p : Pl} (h : PInv mo m p) {i j : Nat} (hi : i < p.l.length) (hj : j < p.l.length) (hij : i ≠ j) (h0 : p.l[i].c.o ≠ 0) : p.l[i].c.o ≠ p.l[j].c.o := fun e => by
  rcases Nat.lt_or_ge i j with h1 | h1
  · exact List.pairwise_iff_getElem.1 h.own i j hi hj h1 h0 e
  · exact List.pairwise_iff_getElem.1 h.own j i hj hi (by omega) (e ▸ h0) e.symm
theorem PInv.shape {mo m : Int} {p : Pl} (h : PInv mo m p) {x : Hd} (hx : x ∈ p.l) : (x.c.o == 0) = (x.c.s == 1) ∧ 1 ≤ x.c.s ∧ x.c.s ≤ 3 ∧ (x.c.f ≠ 0 → x.c.o ≠ 0) ∧ (x.c.s = 3 → x.c.f ≠ 0) := by
  have hl := h.live x hx
  have hok := h.ok x hx
  obtain ⟨id, ep, c, t⟩ := x
  cases c with
  | idle d n => simp [Cn.o, Cn.s, Cn.f]
  | lent o f d n => have : 1 ≤ o := hok; simp [Cn.o, Cn.s, Cn.f]; omega
  | drains o f d n => obtain ⟨h1, h2⟩ : 1 ≤ o ∧ f ≠ 0 := hok; simp [Cn.o, Cn.s, Cn.f, h2]; omega
  | closed d n => simp [Hd.live, Cn.s] at hl
theorem PInv.aside {mo m : Int} {p : Pl} (h : PInv mo m p) {x : Hd} (hx : x ∈ p.l) {y : Int} (hy : y ∈ p.row) : y ≠ x.c.o := fun e => by
  have h1 := h.pos y hy
  exact h.wait x hx (by omega) (e ▸ hy)

set_option maxHeartbeats 32000000 in
theorem poolbounds_walk (mo m idl : Int) (A1 : Option Addr) (l1 c1 : Nat) (ts : List Act6) (W : World) (r1 : AZ W A1 l1 ts) :
    Calls Try.prog 3 #[.int .i64 mo, .int .i64 m, .int .u64 idl, .slice A1 l1 c1] W fun e w' => e = .returned (.bool true) ∧ Below W.heap.size W w' := by
  have HAW := Lib.hid (awake10_ok W)
  have R1 := Lib.hid r1
  have HN1 := Lib.hid r1.len
  clear r1
  go_enter Try.func3, Try.ntmps3
  go_wp2_with fail
  refine HAW.out.mono ?_
  rintro e w1 ⟨rfl, k1⟩
  have HK1 := Lib.hid k1
  clear HAW k1
  by_cases hg : 1 ≤ mo ∧ mo ≤ 6 ∧ 0 ≤ m ∧ m ≤ 12 ∧ idl ≠ 0
  rotate_left
  · have HB := Lib.hid (ppnew_bad mo m idl w1 hg)
    clear hg
    go_wp2_with fail
    refine HB.out.mono ?_
    rintro e w2 ⟨rfl, rfl⟩
    clear HB
    go_wp2_with fail
    go_ret
    exact ⟨rfl, HK1.out⟩
  obtain ⟨g1, g2, g3, g4, g5⟩ := hg
  have HP1 := Lib.hid (ppnew_good mo m idl w1 g1 g2 g3 g4 g5)
  have HK0 := Lib.hid (KInv.new (mo := mo) (m := m) (by omega) g3)
  clear g5
  go_wp2_with fail
  refine HP1.out.mono ?_
  rintro e w2 ⟨b, S2, rfl, p2, q2, k2⟩
  have HS2 : Hid (Solo W (PP b mo idl m ⟨[], [], 0⟩) noneB w2) := Lib.hid (Solo.make HK1.out p2 q2 k2)
  clear p2 q2 k2 HP1 HK1
  by_cases hbig : 100 < l1
  · have hb : (100 : Int) < (l1 : Int) := by omega
    have HLW := Lib.hid HS2.out.low
    clear hbig HS2
    go_wp2_with fail
    go_ret
    exact ⟨rfl, HLW.out⟩
  have hl1 : l1 ≤ 100 := by omega
  have hbl1 : ¬ (100 : Int) < (l1 : Int) := by omega
  clear hbig
  go_wp2_with fail
  go_loopw [39] (fun i wr => ∃ (k : Nat) (p : Pl), k ≤ l1 ∧ i = .int .i64 k ∧ Hid (KInv mo m k p) ∧ Hid (Solo W (PP b mo idl m p) noneB wr)) (fun i _ => l1 - (intOf i).toNat)
  case atStart => exact ⟨0, _, Nat.zero_le _, rfl, HK0, HS2⟩
  case round =>
    obtain ⟨k, p, hk, rfl, HK, hD⟩ := hrel
    by_cases hlt : k < l1
    · clear HS2 HK0
      have hkl : k < ts.length := by rw [HN1.out]; exact hlt
      obtain ⟨ad, rfl, _, hcc⟩ := R1.out.at_ hkl
      obtain ⟨x0, x1, x2, x3, x4, x5⟩ := hcc wr hD.out.low
      clear hcc
      generalize ts[k] = t at *
      have HKN := Lib.hid (HK.out.do (by omega) idl t)
      obtain ⟨d, ss, id, ep, now, n⟩ := t
      dsimp only at x0 x1 x2 x3 x4 x5
      have HDX := Lib.hid (hD.out.mark (.cells #[.int .i64 d, .int .i64 ss, .int .i64 id, .int .u64 ep, .int .u64 now, .int .u64 n] 30))
      have HDO := Lib.hid (HDX.out.act (⟨d, ss, id, ep, now, n⟩ : Act6) HK.out (by omega))
      dsimp only at HDO
      clear HDX hD
      go_wp2_with fail
      refine HDO.out.mono ?_
      rintro e w4 ⟨rfl, hs4, hk4, hz4⟩
      have HS4 := Lib.hid (hs4.less (N' := noneB) fun _ h => h.elim)
      clear hs4 hk4 hz4 HDO
      generalize doP mo idl m (⟨d, ss, id, ep, now, n⟩ : Act6) p = p4 at *
      have HCN := Lib.hid HS4.out.conns
      clear HS4
      unfold told6V
      go_wp2_with fail
      refine HCN.out.mono ?_
      rintro e w5 ⟨A5, n5, c5, rfl, hr5, hn5, hb5, hs5⟩
      have HR5 := Lib.hid hr5
      have HWT := Lib.hid hs5.waiting
      have HN5 := Lib.hid (show p4.l.length = n5 by have := hr5.len; rwa [List.length_map] at this)
      clear hr5 hb5 hs5 HCN
      go_wp2_with fail
      refine HWT.out.mono ?_
      rintro e w6 ⟨A6, n6, c6, rfl, hr6, hn6, hb6, hs6⟩
      have HR5 := Lib.hid (HR5.out.next hb6)
      have HR6 := Lib.hid hr6.nr
      have HN6 := Lib.hid (show p4.row.length = n6 from hr6.nr.len)
      have HS6 := Lib.hid (hs6.less (N' := noneB) fun _ h => h.elim)
      have hfew : ¬ mo < (n5 : Int) := by have := HKN.out.inv.few; rw [HN5.out] at this; omega
      have hroom : ¬ m < (n6 : Int) := by have := HKN.out.inv.room; rw [HN6.out] at this; omega
      clear hr6 hb6 hs6 HWT
      go_wp2_with fail
      go_loopw [62] (fun i wr => ∃ (r : Nat), r ≤ n5 ∧ i = .int .i64 r ∧ Hid (Below w6.heap.size w6 wr)) (fun i _ => n5 - (intOf i).toNat)
      case atStart => exact ⟨0, Nat.zero_le _, rfl, Lib.hid (Below.refl _ _)⟩
      case round =>
        obtain ⟨r, hr, rfl, hw⟩ := hrel
        obtain ⟨wr2, hwo⟩ : ∃ x, x = wr := ⟨wr, rfl⟩
        subst hwo
        by_cases hltr : r < n5
        · have hrl : r < p4.l.length := by rw [HN5.out]; exact hltr
          obtain ⟨ad5, hA5, _, hcc⟩ := HR5.out.at_ (j := r) (by rw [List.length_map]; exact hrl)
          obtain ⟨v0, v1, v2, v3, v4, v5⟩ := hcc wr2 hw.out
          simp only [List.getElem_map] at v0 v1 v2 v3 v4 v5
          dsimp only [infoH] at v0 v1 v2 v3 v4 v5
          obtain ⟨q1, q2, q3, q4, q5⟩ := HKN.out.inv.shape (List.getElem_mem hrl)
          have HAP : Hid (∀ j (hj : j < p4.l.length), r ≠ j → p4.l[r].c.o ≠ 0 → p4.l[r].c.o ≠ p4.l[j].c.o) := Lib.hid fun j hj => HKN.out.inv.apart hrl hj
          have HAS : Hid (∀ y ∈ p4.row, y ≠ p4.l[r].c.o) := Lib.hid fun y => HKN.out.inv.aside (List.getElem_mem hrl)
          have HUP : Hid (∀ s (hs : s < p4.l.length), s + 1 = r → p4.l[s].id < p4.l[r].id) := Lib.hid fun s hs e => List.pairwise_iff_getElem.1 HKN.out.ids.up s r hs hrl (by omega)
          clear hcc
          generalize p4.l[r] = cc at *
          have HBC := Lib.hid (heap_alloc_new wr2 (.cells #[.int .i64 cc.id, .int .i64 cc.c.s, .int .i64 cc.c.o, .int .u64 cc.ep, .int .u64 cc.c.f, .int .u64 cc.t] 39))
          have HKA := Lib.hid (kp_alloc hw.out (.cells #[.int .i64 cc.id, .int .i64 cc.c.s, .int .i64 cc.c.o, .int .u64 cc.ep, .int .u64 cc.c.f, .int .u64 cc.t] 39))
          have HSZ : Hid ((wr2.alloc (.cells #[.int .i64 cc.id, .int .i64 cc.c.s, .int .i64 cc.c.o, .int .u64 cc.ep, .int .u64 cc.c.f, .int .u64 cc.t] 39)).heap.size = wr2.heap.size + 1) := Lib.hid (by simp)
          clear hw
          have b1 : decide (cc.c.s < 1) = false := by simp; omega
          have b2 : decide (3 < cc.c.s) = false := by simp; omega
          rcases Nat.eq_zero_or_pos r with hr0 | hrp
          · have hrz : ¬ 0 < r := by omega
            have hrzi : ¬ (0 : Int) < (r : Int) := by omega
            clear hr0 HUP
            by_cases hf : cc.c.f = 0
            · have f1 : (cc.c.f != 0) = false := by simp [hf]
              have s3 : (cc.c.s == 3) = false := by simp; intro e; exact q5 e hf
              clear q2 q3 q4 q5 hf
              subst hA5
              go_wp2_with fail
              go_quiet (fail)
              try clear hwr1 hwr2 hsub hs0 hsn2 hsn hrpi z0
              try clear hrz hrzi
              try clear f1 s3
              try clear q1
              try clear f2 o1
              try clear s1
              clear b1 b2 v0 v1 v2 v3 v4 v5
              go_wp2_with fail
              go_loopw [121] (fun i wr => ∃ (q : Nat), q ≤ n5 ∧ i = .int .i64 q ∧ Hid (Below (wr2.alloc (.cells #[.int .i64 cc.id, .int .i64 cc.c.s, .int .i64 cc.c.o, .int .u64 cc.ep, .int .u64 cc.c.f, .int .u64 cc.t] 39)).heap.size (wr2.alloc (.cells #[.int .i64 cc.id, .int .i64 cc.c.s, .int .i64 cc.c.o, .int .u64 cc.ep, .int .u64 cc.c.f, .int .u64 cc.t] 39)) wr)) (fun i _ => n5 - (intOf i).toNat)
              case atStart => exact ⟨0, Nat.zero_le _, rfl, Lib.hid (kp_drewN _ nq)⟩
              case round =>
                obtain ⟨q, hq, rfl, hv⟩ := hrel
                obtain ⟨wr3, hwo⟩ : ∃ x, x = wr := ⟨wr, rfl⟩
                subst hwo
                have hx16 := (hv.out.block wr2.heap.size (by rw [HSZ.out]; omega)).trans HBC.out
                obtain ⟨y2, _⟩ := cellsAt hx16 2 (v := .int .i64 cc.c.o) rfl
                have hlt16 : wr2.heap.size < wr3.heap.size := by have := hv.out.size; rw [HSZ.out] at this; omega
                clear hx16
                by_cases hltq : q < n5
                · have hql : q < p4.l.length := by rw [HN5.out]; exact hltq
                  obtain ⟨ad3, hA3, _, hcc⟩ := HR5.out.at_ (j := q) (by rw [List.length_map]; exact hql)
                  obtain rfl : ad5 = ad3 := by injection hA3
                  obtain ⟨z0, z1, z2, z3, z4, z5⟩ := hcc wr3 (kp_trans HKA.out hv.out)
                  simp only [List.getElem_map] at z0 z1 z2 z3 z4 z5
                  dsimp only [infoH] at z0 z1 z2 z3 z4 z5
                  have hap := HAP.out q hql
                  clear hcc hA3
                  generalize p4.l[q] = dd at *
                  have HKV := Lib.hid (kp_alloc hv.out (.cells #[.int .i64 dd.id, .int .i64 dd.c.s, .int .i64 dd.c.o, .int .u64 dd.ep, .int .u64 dd.c.f, .int .u64 dd.t] 39))
                  clear hv
                  by_cases hrq : r = q
                  · have n1 : ((r : Int) != (q : Int)) = false := by simp [hrq]
                    have HRQ := Lib.hid hrq
                    clear hap hrq
                    go_wp2_with fail
                    go_roundw
                    case rel => exact ⟨q + 1, by omega, by go_num, HKV⟩
                    case measure => simp [intOf]; omega
                  · have n1 : ((r : Int) != (q : Int)) = true := by simp; omega
                    by_cases ho : cc.c.o = 0
                    · have o2 : (cc.c.o != 0) = false := by simp [ho]
                      clear hap hrq ho
                      go_wp2_with fail
                      go_roundw
                      case rel => exact ⟨q + 1, by omega, by go_num, HKV⟩
                      case measure => simp [intOf]; omega
                    · have o2 : (cc.c.o != 0) = true := by simp [ho]
                      have o3 : (cc.c.o == dd.c.o) = false := by simpa using hap hrq ho
                      clear hap hrq ho
                      go_wp2_with fail
                      go_roundw
                      case rel => exact ⟨q + 1, by omega, by go_num, HKV⟩
                      case measure => simp [intOf]; omega
                · obtain rfl : q = n5 := by omega
                  have HKV := hv
                  clear hv y2 hlt16
                  go_wp2_with fail
                  go_loopw [144] (fun i wr => ∃ (u : Nat), u ≤ n6 ∧ i = .int .i64 u ∧ Hid (Below (wr2.alloc (.cells #[.int .i64 cc.id, .int .i64 cc.c.s, .int .i64 cc.c.o, .int .u64 cc.ep, .int .u64 cc.c.f, .int .u64 cc.t] 39)).heap.size (wr2.alloc (.cells #[.int .i64 cc.id, .int .i64 cc.c.s, .int .i64 cc.c.o, .int .u64 cc.ep, .int .u64 cc.c.f, .int .u64 cc.t] 39)) wr)) (fun i _ => n6 - (intOf i).toNat)
                  case atStart => exact ⟨0, Nat.zero_le _, rfl, HKV⟩
                  case round =>
                    obtain ⟨u, hu, rfl, hv⟩ := hrel
                    clear HKV
                    have hx16 := (hv.out.block wr2.heap.size (by rw [HSZ.out]; omega)).trans HBC.out
                    obtain ⟨y2, _⟩ := cellsAt hx16 2 (v := .int .i64 cc.c.o) rfl
                    clear hx16
                    by_cases hltu : u < n6
                    · have hul : u < p4.row.length := by rw [HN6.out]; exact hltu
                      obtain ⟨ad7, rfl, _, hcc⟩ := HR6.out.at_ hul
                      have z0 := hcc wr (kp_trans HKA.out hv.out)
                      have has := HAS.out _ (List.getElem_mem hul)
                      clear hcc
                      generalize p4.row[u] = yy at *
                      have o3 : (yy == cc.c.o) = false := by simpa using has
                      clear has
                      go_wp2_with fail
                      go_roundw
                      case rel => exact ⟨u + 1, by omega, by go_num, hv⟩
                      case measure => simp [intOf]; omega
                    · obtain rfl : u = n6 := by omega
                      have HKW := Lib.hid (kp_trans HKA.out hv.out)
                      clear hv
                      go_wp2_with fail
                      go_roundw
                      case rel => exact ⟨r + 1, by omega, by go_num, HKW⟩
                      case measure => simp [intOf]; omega
            · have f1 : (cc.c.f != 0) = true := by simp [hf]
              have f2 : (cc.c.f == 0) = false := by simp [hf]
              have o1 : (cc.c.o == 0) = false := by simpa using q4 hf
              rw [o1] at q1
              by_cases h3 : cc.c.s = 3
              · have s3 : (cc.c.s == 3) = true := by simp [h3]
                have s1 : (cc.c.s == 1) = false := q1.symm
                clear q1 q2 q3 q4 q5 hf h3
                subst hA5
                go_wp2_with fail
                go_quiet (fail)
                try clear hwr1 hwr2 hsub hs0 hsn2 hsn hrpi z0
                try clear hrz hrzi
                try clear f1 s3
                try clear q1
                try clear f2 o1
                try clear s1
                clear b1 b2 v0 v1 v2 v3 v4 v5
                go_wp2_with fail
                go_loopw [121] (fun i wr => ∃ (q : Nat), q ≤ n5 ∧ i = .int .i64 q ∧ Hid (Below (wr2.alloc (.cells #[.int .i64 cc.id, .int .i64 cc.c.s, .int .i64 cc.c.o, .int .u64 cc.ep, .int .u64 cc.c.f, .int .u64 cc.t] 39)).heap.size (wr2.alloc (.cells #[.int .i64 cc.id, .int .i64 cc.c.s, .int .i64 cc.c.o, .int .u64 cc.ep, .int .u64 cc.c.f, .int .u64 cc.t] 39)) wr)) (fun i _ => n5 - (intOf i).toNat)
                case atStart => exact ⟨0, Nat.zero_le _, rfl, Lib.hid (kp_drewN _ nq)⟩
                case round =>
                  obtain ⟨q, hq, rfl, hv⟩ := hrel
                  obtain ⟨wr3, hwo⟩ : ∃ x, x = wr := ⟨wr, rfl⟩
                  subst hwo
                  have hx16 := (hv.out.block wr2.heap.size (by rw [HSZ.out]; omega)).trans HBC.out
                  obtain ⟨y2, _⟩ := cellsAt hx16 2 (v := .int .i64 cc.c.o) rfl
                  have hlt16 : wr2.heap.size < wr3.heap.size := by have := hv.out.size; rw [HSZ.out] at this; omega
                  clear hx16
                  by_cases hltq : q < n5
                  · have hql : q < p4.l.length := by rw [HN5.out]; exact hltq
                    obtain ⟨ad3, hA3, _, hcc⟩ := HR5.out.at_ (j := q) (by rw [List.length_map]; exact hql)
                    obtain rfl : ad5 = ad3 := by injection hA3
                    obtain ⟨z0, z1, z2, z3, z4, z5⟩ := hcc wr3 (kp_trans HKA.out hv.out)
                    simp only [List.getElem_map] at z0 z1 z2 z3 z4 z5
                    dsimp only [infoH] at z0 z1 z2 z3 z4 z5
                    have hap := HAP.out q hql
                    clear hcc hA3
                    generalize p4.l[q] = dd at *
                    have HKV := Lib.hid (kp_alloc hv.out (.cells #[.int .i64 dd.id, .int .i64 dd.c.s, .int .i64 dd.c.o, .int .u64 dd.ep, .int .u64 dd.c.f, .int .u64 dd.t] 39))
                    clear hv
                    by_cases hrq : r = q
                    · have n1 : ((r : Int) != (q : Int)) = false := by simp [hrq]
                      have HRQ := Lib.hid hrq
                      clear hap hrq
                      go_wp2_with fail
                      go_roundw
                      case rel => exact ⟨q + 1, by omega, by go_num, HKV⟩
                      case measure => simp [intOf]; omega
                    · have n1 : ((r : Int) != (q : Int)) = true := by simp; omega
                      by_cases ho : cc.c.o = 0
                      · have o2 : (cc.c.o != 0) = false := by simp [ho]
                        clear hap hrq ho
                        go_wp2_with fail
                        go_roundw
                        case rel => exact ⟨q + 1, by omega, by go_num, HKV⟩
                        case measure => simp [intOf]; omega
                      · have o2 : (cc.c.o != 0) = true := by simp [ho]
                        have o3 : (cc.c.o == dd.c.o) = false := by simpa using hap hrq ho
                        clear hap hrq ho
                        go_wp2_with fail
                        go_roundw
                        case rel => exact ⟨q + 1, by omega, by go_num, HKV⟩
                        case measure => simp [intOf]; omega
                  · obtain rfl : q = n5 := by omega
                    have HKV := hv
                    clear hv y2 hlt16
                    go_wp2_with fail
                    go_loopw [144] (fun i wr => ∃ (u : Nat), u ≤ n6 ∧ i = .int .i64 u ∧ Hid (Below (wr2.alloc (.cells #[.int .i64 cc.id, .int .i64 cc.c.s, .int .i64 cc.c.o, .int .u64 cc.ep, .int .u64 cc.c.f, .int .u64 cc.t] 39)).heap.size (wr2.alloc (.cells #[.int .i64 cc.id, .int .i64 cc.c.s, .int .i64 cc.c.o, .int .u64 cc.ep, .int .u64 cc.c.f, .int .u64 cc.t] 39)) wr)) (fun i _ => n6 - (intOf i).toNat)
                    case atStart => exact ⟨0, Nat.zero_le _, rfl, HKV⟩
                    case round =>
                      obtain ⟨u, hu, rfl, hv⟩ := hrel
                      clear HKV
                      have hx16 := (hv.out.block wr2.heap.size (by rw [HSZ.out]; omega)).trans HBC.out
                      obtain ⟨y2, _⟩ := cellsAt hx16 2 (v := .int .i64 cc.c.o) rfl
                      clear hx16
                      by_cases hltu : u < n6
                      · have hul : u < p4.row.length := by rw [HN6.out]; exact hltu
                        obtain ⟨ad7, rfl, _, hcc⟩ := HR6.out.at_ hul
                        have z0 := hcc wr (kp_trans HKA.out hv.out)
                        have has := HAS.out _ (List.getElem_mem hul)
                        clear hcc
                        generalize p4.row[u] = yy at *
                        have o3 : (yy == cc.c.o) = false := by simpa using has
                        clear has
                        go_wp2_with fail
                        go_roundw
                        case rel => exact ⟨u + 1, by omega, by go_num, hv⟩
                        case measure => simp [intOf]; omega
                      · obtain rfl : u = n6 := by omega
                        have HKW := Lib.hid (kp_trans HKA.out hv.out)
                        clear hv
                        go_wp2_with fail
                        go_roundw
                        case rel => exact ⟨r + 1, by omega, by go_num, HKW⟩
                        case measure => simp [intOf]; omega
              · have s3 : (cc.c.s == 3) = false := by simp [h3]
                have s1 : (cc.c.s == 1) = false := q1.symm
                clear q1 q2 q3 q4 q5 hf h3
                subst hA5
                go_wp2_with fail
                go_quiet (fail)
                try clear hwr1 hwr2 hsub hs0 hsn2 hsn hrpi z0
                try clear hrz hrzi
                try clear f1 s3
                try clear q1
                try clear f2 o1
                try clear s1
                clear b1 b2 v0 v1 v2 v3 v4 v5
                go_wp2_with fail
                go_loopw [121] (fun i wr => ∃ (q : Nat), q ≤ n5 ∧ i = .int .i64 q ∧ Hid (Below (wr2.alloc (.cells #[.int .i64 cc.id, .int .i64 cc.c.s, .int .i64 cc.c.o, .int .u64 cc.ep, .int .u64 cc.c.f, .int .u64 cc.t] 39)).heap.size (wr2.alloc (.cells #[.int .i64 cc.id, .int .i64 cc.c.s, .int .i64 cc.c.o, .int .u64 cc.ep, .int .u64 cc.c.f, .int .u64 cc.t] 39)) wr)) (fun i _ => n5 - (intOf i).toNat)
                case atStart => exact ⟨0, Nat.zero_le _, rfl, Lib.hid (kp_drewN _ nq)⟩
                case round =>
                  obtain ⟨q, hq, rfl, hv⟩ := hrel
                  obtain ⟨wr3, hwo⟩ : ∃ x, x = wr := ⟨wr, rfl⟩
                  subst hwo
                  have hx16 := (hv.out.block wr2.heap.size (by rw [HSZ.out]; omega)).trans HBC.out
                  obtain ⟨y2, _⟩ := cellsAt hx16 2 (v := .int .i64 cc.c.o) rfl
                  have hlt16 : wr2.heap.size < wr3.heap.size := by have := hv.out.size; rw [HSZ.out] at this; omega
                  clear hx16
                  by_cases hltq : q < n5
                  · have hql : q < p4.l.length := by rw [HN5.out]; exact hltq
                    obtain ⟨ad3, hA3, _, hcc⟩ := HR5.out.at_ (j := q) (by rw [List.length_map]; exact hql)
                    obtain rfl : ad5 = ad3 := by injection hA3
                    obtain ⟨z0, z1, z2, z3, z4, z5⟩ := hcc wr3 (kp_trans HKA.out hv.out)
                    simp only [List.getElem_map] at z0 z1 z2 z3 z4 z5
                    dsimp only [infoH] at z0 z1 z2 z3 z4 z5
                    have hap := HAP.out q hql
                    clear hcc hA3
                    generalize p4.l[q] = dd at *
                    have HKV := Lib.hid (kp_alloc hv.out (.cells #[.int .i64 dd.id, .int .i64 dd.c.s, .int .i64 dd.c.o, .int .u64 dd.ep, .int .u64 dd.c.f, .int .u64 dd.t] 39))
                    clear hv
                    by_cases hrq : r = q
                    · have n1 : ((r : Int) != (q : Int)) = false := by simp [hrq]
                      have HRQ := Lib.hid hrq
                      clear hap hrq
                      go_wp2_with fail
                      go_roundw
                      case rel => exact ⟨q + 1, by omega, by go_num, HKV⟩
                      case measure => simp [intOf]; omega
                    · have n1 : ((r : Int) != (q : Int)) = true := by simp; omega
                      by_cases ho : cc.c.o = 0
                      · have o2 : (cc.c.o != 0) = false := by simp [ho]
                        clear hap hrq ho
                        go_wp2_with fail
                        go_roundw
                        case rel => exact ⟨q + 1, by omega, by go_num, HKV⟩
                        case measure => simp [intOf]; omega
                      · have o2 : (cc.c.o != 0) = true := by simp [ho]
                        have o3 : (cc.c.o == dd.c.o) = false := by simpa using hap hrq ho
                        clear hap hrq ho
                        go_wp2_with fail
                        go_roundw
                        case rel => exact ⟨q + 1, by omega, by go_num, HKV⟩
                        case measure => simp [intOf]; omega
                  · obtain rfl : q = n5 := by omega
                    have HKV := hv
                    clear hv y2 hlt16
                    go_wp2_with fail
                    go_loopw [144] (fun i wr => ∃ (u : Nat), u ≤ n6 ∧ i = .int .i64 u ∧ Hid (Below (wr2.alloc (.cells #[.int .i64 cc.id, .int .i64 cc.c.s, .int .i64 cc.c.o, .int .u64 cc.ep, .int .u64 cc.c.f, .int .u64 cc.t] 39)).heap.size (wr2.alloc (.cells #[.int .i64 cc.id, .int .i64 cc.c.s, .int .i64 cc.c.o, .int .u64 cc.ep, .int .u64 cc.c.f, .int .u64 cc.t] 39)) wr)) (fun i _ => n6 - (intOf i).toNat)
                    case atStart => exact ⟨0, Nat.zero_le _, rfl, HKV⟩
                    case round =>
                      obtain ⟨u, hu, rfl, hv⟩ := hrel
                      clear HKV
                      have hx16 := (hv.out.block wr2.heap.size (by rw [HSZ.out]; omega)).trans HBC.out
                      obtain ⟨y2, _⟩ := cellsAt hx16 2 (v := .int .i64 cc.c.o) rfl
                      clear hx16
                      by_cases hltu : u < n6
                      · have hul : u < p4.row.length := by rw [HN6.out]; exact hltu
                        obtain ⟨ad7, rfl, _, hcc⟩ := HR6.out.at_ hul
                        have z0 := hcc wr (kp_trans HKA.out hv.out)
                        have has := HAS.out _ (List.getElem_mem hul)
                        clear hcc
                        generalize p4.row[u] = yy at *
                        have o3 : (yy == cc.c.o) = false := by simpa using has
                        clear has
                        go_wp2_with fail
                        go_roundw
                        case rel => exact ⟨u + 1, by omega, by go_num, hv⟩
                        case measure => simp [intOf]; omega
                      · obtain rfl : u = n6 := by omega
                        have HKW := Lib.hid (kp_trans HKA.out hv.out)
                        clear hv
                        go_wp2_with fail
                        go_roundw
                        case rel => exact ⟨r + 1, by omega, by go_num, HKW⟩
                        case measure => simp [intOf]; omega
          · obtain ⟨s, hs⟩ : ∃ s, s + 1 = r := ⟨r - 1, by omega⟩
            have hsl : s < p4.l.length := by omega
            obtain ⟨ad6, hA6, _, hcc⟩ := HR5.out.at_ (j := s) (by rw [List.length_map]; exact hsl)
            obtain ⟨z0, _⟩ := hcc (wr2.alloc (.cells #[.int .i64 cc.id, .int .i64 cc.c.s, .int .i64 cc.c.o, .int .u64 cc.ep, .int .u64 cc.c.f, .int .u64 cc.t] 39)) HKA.out
            simp only [List.getElem_map] at z0
            dsimp only [infoH] at z0
            have hid0 := HUP.out s hsl hs
            generalize p4.l[s].id = sid at *
            have hid : ¬ cc.id ≤ sid := by omega
            obtain rfl : ad5 = ad6 := by rw [hA5] at hA6; injection hA6
            have hsub : (r : Int) - 1 = (s : Int) := by omega
            have hwr1 : IntKind.i64.wrap ((r : Int) - 1) = (s : Int) := by rw [IntKind.wrap_i64]; omega
            have hwr2 : IntKind.i64.wrap (s : Int) = (s : Int) := by rw [IntKind.wrap_i64]; omega
            have hs0 : (0 : Int) ≤ (s : Int) := by omega
            have hsn2 : (s : Int) < (n5 : Int) := by omega
            have hsn : s < n5 := by omega
            have hrpi : (0 : Int) < (r : Int) := by omega
            clear hs hcc HUP hA6 hid0
            by_cases hf : cc.c.f = 0
            · have f1 : (cc.c.f != 0) = false := by simp [hf]
              have s3 : (cc.c.s == 3) = false := by simp; intro e; exact q5 e hf
              clear q2 q3 q4 q5 hf
              subst hA5
              go_wp2_with fail
              go_quiet (fail)
              try clear hwr1 hwr2 hsub hs0 hsn2 hsn hrpi z0
              try clear hrz hrzi
              try clear f1 s3
              try clear q1
              try clear f2 o1
              try clear s1
              clear b1 b2 v0 v1 v2 v3 v4 v5
              go_wp2_with fail
              go_loopw [121] (fun i wr => ∃ (q : Nat), q ≤ n5 ∧ i = .int .i64 q ∧ Hid (Below (wr2.alloc (.cells #[.int .i64 cc.id, .int .i64 cc.c.s, .int .i64 cc.c.o, .int .u64 cc.ep, .int .u64 cc.c.f, .int .u64 cc.t] 39)).heap.size (wr2.alloc (.cells #[.int .i64 cc.id, .int .i64 cc.c.s, .int .i64 cc.c.o, .int .u64 cc.ep, .int .u64 cc.c.f, .int .u64 cc.t] 39)) wr)) (fun i _ => n5 - (intOf i).toNat)
              case atStart => exact ⟨0, Nat.zero_le _, rfl, Lib.hid (kp_drewN _ nq)⟩
              case round =>
                obtain ⟨q, hq, rfl, hv⟩ := hrel
                obtain ⟨wr3, hwo⟩ : ∃ x, x = wr := ⟨wr, rfl⟩
                subst hwo
                have hx16 := (hv.out.block wr2.heap.size (by rw [HSZ.out]; omega)).trans HBC.out
                obtain ⟨y2, _⟩ := cellsAt hx16 2 (v := .int .i64 cc.c.o) rfl
                have hlt16 : wr2.heap.size < wr3.heap.size := by have := hv.out.size; rw [HSZ.out] at this; omega
                clear hx16
                by_cases hltq : q < n5
                · have hql : q < p4.l.length := by rw [HN5.out]; exact hltq
                  obtain ⟨ad3, hA3, _, hcc⟩ := HR5.out.at_ (j := q) (by rw [List.length_map]; exact hql)
                  obtain rfl : ad5 = ad3 := by injection hA3
                  obtain ⟨z0, z1, z2, z3, z4, z5⟩ := hcc wr3 (kp_trans HKA.out hv.out)
                  simp only [List.getElem_map] at z0 z1 z2 z3 z4 z5
                  dsimp only [infoH] at z0 z1 z2 z3 z4 z5
                  have hap := HAP.out q hql
                  clear hcc hA3
                  generalize p4.l[q] = dd at *
                  have HKV := Lib.hid (kp_alloc hv.out (.cells #[.int .i64 dd.id, .int .i64 dd.c.s, .int .i64 dd.c.o, .int .u64 dd.ep, .int .u64 dd.c.f, .int .u64 dd.t] 39))
                  clear hv
                  by_cases hrq : r = q
                  · have n1 : ((r : Int) != (q : Int)) = false := by simp [hrq]
                    have HRQ := Lib.hid hrq
                    clear hap hrq
                    go_wp2_with fail
                    go_roundw
                    case rel => exact ⟨q + 1, by omega, by go_num, HKV⟩
                    case measure => simp [intOf]; omega
                  · have n1 : ((r : Int) != (q : Int)) = true := by simp; omega
                    by_cases ho : cc.c.o = 0
                    · have o2 : (cc.c.o != 0) = false := by simp [ho]
                      clear hap hrq ho
                      go_wp2_with fail
                      go_roundw
                      case rel => exact ⟨q + 1, by omega, by go_num, HKV⟩
                      case measure => simp [intOf]; omega
                    · have o2 : (cc.c.o != 0) = true := by simp [ho]
                      have o3 : (cc.c.o == dd.c.o) = false := by simpa using hap hrq ho
                      clear hap hrq ho
                      go_wp2_with fail
                      go_roundw
                      case rel => exact ⟨q + 1, by omega, by go_num, HKV⟩
                      case measure => simp [intOf]; omega
                · obtain rfl : q = n5 := by omega
                  have HKV := hv
                  clear hv y2 hlt16
                  go_wp2_with fail
                  go_loopw [144] (fun i wr => ∃ (u : Nat), u ≤ n6 ∧ i = .int .i64 u ∧ Hid (Below (wr2.alloc (.cells #[.int .i64 cc.id, .int .i64 cc.c.s, .int .i64 cc.c.o, .int .u64 cc.ep, .int .u64 cc.c.f, .int .u64 cc.t] 39)).heap.size (wr2.alloc (.cells #[.int .i64 cc.id, .int .i64 cc.c.s, .int .i64 cc.c.o, .int .u64 cc.ep, .int .u64 cc.c.f, .int .u64 cc.t] 39)) wr)) (fun i _ => n6 - (intOf i).toNat)
                  case atStart => exact ⟨0, Nat.zero_le _, rfl, HKV⟩
                  case round =>
                    obtain ⟨u, hu, rfl, hv⟩ := hrel
                    clear HKV
                    have hx16 := (hv.out.block wr2.heap.size (by rw [HSZ.out]; omega)).trans HBC.out
                    obtain ⟨y2, _⟩ := cellsAt hx16 2 (v := .int .i64 cc.c.o) rfl
                    clear hx16
                    by_cases hltu : u < n6
                    · have hul : u < p4.row.length := by rw [HN6.out]; exact hltu
                      obtain ⟨ad7, rfl, _, hcc⟩ := HR6.out.at_ hul
                      have z0 := hcc wr (kp_trans HKA.out hv.out)
                      have has := HAS.out _ (List.getElem_mem hul)
                      clear hcc
                      generalize p4.row[u] = yy at *
                      have o3 : (yy == cc.c.o) = false := by simpa using has
                      clear has
                      go_wp2_with fail
                      go_roundw
                      case rel => exact ⟨u + 1, by omega, by go_num, hv⟩
                      case measure => simp [intOf]; omega
                    · obtain rfl : u = n6 := by omega
                      have HKW := Lib.hid (kp_trans HKA.out hv.out)
                      clear hv
                      go_wp2_with fail
                      go_roundw
                      case rel => exact ⟨r + 1, by omega, by go_num, HKW⟩
                      case measure => simp [intOf]; omega
            · have f1 : (cc.c.f != 0) = true := by simp [hf]
              have f2 : (cc.c.f == 0) = false := by simp [hf]
              have o1 : (cc.c.o == 0) = false := by simpa using q4 hf
              rw [o1] at q1
              by_cases h3 : cc.c.s = 3
              · have s3 : (cc.c.s == 3) = true := by simp [h3]
                have s1 : (cc.c.s == 1) = false := q1.symm
                clear q1 q2 q3 q4 q5 hf h3
                subst hA5
                go_wp2_with fail
                go_quiet (fail)
                try clear hwr1 hwr2 hsub hs0 hsn2 hsn hrpi z0
                try clear hrz hrzi
                try clear f1 s3
                try clear q1
                try clear f2 o1
                try clear s1
                clear b1 b2 v0 v1 v2 v3 v4 v5
                go_wp2_with fail
                go_loopw [121] (fun i wr => ∃ (q : Nat), q ≤ n5 ∧ i = .int .i64 q ∧ Hid (Below (wr2.alloc (.cells #[.int .i64 cc.id, .int .i64 cc.c.s, .int .i64 cc.c.o, .int .u64 cc.ep, .int .u64 cc.c.f, .int .u64 cc.t] 39)).heap.size (wr2.alloc (.cells #[.int .i64 cc.id, .int .i64 cc.c.s, .int .i64 cc.c.o, .int .u64 cc.ep, .int .u64 cc.c.f, .int .u64 cc.t] 39)) wr)) (fun i _ => n5 - (intOf i).toNat)
                case atStart => exact ⟨0, Nat.zero_le _, rfl, Lib.hid (kp_drewN _ nq)⟩
                case round =>
                  obtain ⟨q, hq, rfl, hv⟩ := hrel
                  obtain ⟨wr3, hwo⟩ : ∃ x, x = wr := ⟨wr, rfl⟩
                  subst hwo
                  have hx16 := (hv.out.block wr2.heap.size (by rw [HSZ.out]; omega)).trans HBC.out
                  obtain ⟨y2, _⟩ := cellsAt hx16 2 (v := .int .i64 cc.c.o) rfl
                  have hlt16 : wr2.heap.size < wr3.heap.size := by have := hv.out.size; rw [HSZ.out] at this; omega
                  clear hx16
                  by_cases hltq : q < n5
                  · have hql : q < p4.l.length := by rw [HN5.out]; exact hltq
                    obtain ⟨ad3, hA3, _, hcc⟩ := HR5.out.at_ (j := q) (by rw [List.length_map]; exact hql)
                    obtain rfl : ad5 = ad3 := by injection hA3
                    obtain ⟨z0, z1, z2, z3, z4, z5⟩ := hcc wr3 (kp_trans HKA.out hv.out)
                    simp only [List.getElem_map] at z0 z1 z2 z3 z4 z5
                    dsimp only [infoH] at z0 z1 z2 z3 z4 z5
                    have hap := HAP.out q hql
                    clear hcc hA3
                    generalize p4.l[q] = dd at *
                    have HKV := Lib.hid (kp_alloc hv.out (.cells #[.int .i64 dd.id, .int .i64 dd.c.s, .int .i64 dd.c.o, .int .u64 dd.ep, .int .u64 dd.c.f, .int .u64 dd.t] 39))
                    clear hv
                    by_cases hrq : r = q
                    · have n1 : ((r : Int) != (q : Int)) = false := by simp [hrq]
                      have HRQ := Lib.hid hrq
                      clear hap hrq
                      go_wp2_with fail
                      go_roundw
                      case rel => exact ⟨q + 1, by omega, by go_num, HKV⟩
                      case measure => simp [intOf]; omega
                    · have n1 : ((r : Int) != (q : Int)) = true := by simp; omega
                      by_cases ho : cc.c.o = 0
                      · have o2 : (cc.c.o != 0) = false := by simp [ho]
                        clear hap hrq ho
                        go_wp2_with fail
                        go_roundw
                        case rel => exact ⟨q + 1, by omega, by go_num, HKV⟩
                        case measure => simp [intOf]; omega
                      · have o2 : (cc.c.o != 0) = true := by simp [ho]
                        have o3 : (cc.c.o == dd.c.o) = false := by simpa using hap hrq ho
                        clear hap hrq ho
                        go_wp2_with fail
                        go_roundw
                        case rel => exact ⟨q + 1, by omega, by go_num, HKV⟩
                        case measure => simp [intOf]; omega
                  · obtain rfl : q = n5 := by omega
                    have HKV := hv
                    clear hv y2 hlt16
                    go_wp2_with fail
                    go_loopw [144] (fun i wr => ∃ (u : Nat), u ≤ n6 ∧ i = .int .i64 u ∧ Hid (Below (wr2.alloc (.cells #[.int .i64 cc.id, .int .i64 cc.c.s, .int .i64 cc.c.o, .int .u64 cc.ep, .int .u64 cc.c.f, .int .u64 cc.t] 39)).heap.size (wr2.alloc (.cells #[.int .i64 cc.id, .int .i64 cc.c.s, .int .i64 cc.c.o, .int .u64 cc.ep, .int .u64 cc.c.f, .int .u64 cc.t] 39)) wr)) (fun i _ => n6 - (intOf i).toNat)
                    case atStart => exact ⟨0, Nat.zero_le _, rfl, HKV⟩
                    case round =>
                      obtain ⟨u, hu, rfl, hv⟩ := hrel
                      clear HKV
                      have hx16 := (hv.out.block wr2.heap.size (by rw [HSZ.out]; omega)).trans HBC.out
                      obtain ⟨y2, _⟩ := cellsAt hx16 2 (v := .int .i64 cc.c.o) rfl
                      clear hx16
                      by_cases hltu : u < n6
                      · have hul : u < p4.row.length := by rw [HN6.out]; exact hltu
                        obtain ⟨ad7, rfl, _, hcc⟩ := HR6.out.at_ hul
                        have z0 := hcc wr (kp_trans HKA.out hv.out)
                        have has := HAS.out _ (List.getElem_mem hul)
                        clear hcc
                        generalize p4.row[u] = yy at *
                        have o3 : (yy == cc.c.o) = false := by simpa using has
                        clear has
                        go_wp2_with fail
                        go_roundw
                        case rel => exact ⟨u + 1, by omega, by go_num, hv⟩
                        case measure => simp [intOf]; omega
                      · obtain rfl : u = n6 := by omega
                        have HKW := Lib.hid (kp_trans HKA.out hv.out)
                        clear hv
                        go_wp2_with fail
                        go_roundw
                        case rel => exact ⟨r + 1, by omega, by go_num, HKW⟩
                        case measure => simp [intOf]; omega
              · have s3 : (cc.c.s == 3) = false := by simp [h3]
                have s1 : (cc.c.s == 1) = false := q1.symm
                clear q1 q2 q3 q4 q5 hf h3
                subst hA5
                go_wp2_with fail
                go_quiet (fail)
                try clear hwr1 hwr2 hsub hs0 hsn2 hsn hrpi z0
                try clear hrz hrzi
                try clear f1 s3
                try clear q1
                try clear f2 o1
                try clear s1
                clear b1 b2 v0 v1 v2 v3 v4 v5
                go_wp2_with fail
                go_loopw [121] (fun i wr => ∃ (q : Nat), q ≤ n5 ∧ i = .int .i64 q ∧ Hid (Below (wr2.alloc (.cells #[.int .i64 cc.id, .int .i64 cc.c.s, .int .i64 cc.c.o, .int .u64 cc.ep, .int .u64 cc.c.f, .int .u64 cc.t] 39)).heap.size (wr2.alloc (.cells #[.int .i64 cc.id, .int .i64 cc.c.s, .int .i64 cc.c.o, .int .u64 cc.ep, .int .u64 cc.c.f, .int .u64 cc.t] 39)) wr)) (fun i _ => n5 - (intOf i).toNat)
                case atStart => exact ⟨0, Nat.zero_le _, rfl, Lib.hid (kp_drewN _ nq)⟩
                case round =>
                  obtain ⟨q, hq, rfl, hv⟩ := hrel
                  obtain ⟨wr3, hwo⟩ : ∃ x, x = wr := ⟨wr, rfl⟩
                  subst hwo
                  have hx16 := (hv.out.block wr2.heap.size (by rw [HSZ.out]; omega)).trans HBC.out
                  obtain ⟨y2, _⟩ := cellsAt hx16 2 (v := .int .i64 cc.c.o) rfl
                  have hlt16 : wr2.heap.size < wr3.heap.size := by have := hv.out.size; rw [HSZ.out] at this; omega
                  clear hx16
                  by_cases hltq : q < n5
                  · have hql : q < p4.l.length := by rw [HN5.out]; exact hltq
                    obtain ⟨ad3, hA3, _, hcc⟩ := HR5.out.at_ (j := q) (by rw [List.length_map]; exact hql)
                    obtain rfl : ad5 = ad3 := by injection hA3
                    obtain ⟨z0, z1, z2, z3, z4, z5⟩ := hcc wr3 (kp_trans HKA.out hv.out)
                    simp only [List.getElem_map] at z0 z1 z2 z3 z4 z5
                    dsimp only [infoH] at z0 z1 z2 z3 z4 z5
                    have hap := HAP.out q hql
                    clear hcc hA3
                    generalize p4.l[q] = dd at *
                    have HKV := Lib.hid (kp_alloc hv.out (.cells #[.int .i64 dd.id, .int .i64 dd.c.s, .int .i64 dd.c.o, .int .u64 dd.ep, .int .u64 dd.c.f, .int .u64 dd.t] 39))
                    clear hv
                    by_cases hrq : r = q
                    · have n1 : ((r : Int) != (q : Int)) = false := by simp [hrq]
                      have HRQ := Lib.hid hrq
                      clear hap hrq
                      go_wp2_with fail
                      go_roundw
                      case rel => exact ⟨q + 1, by omega, by go_num, HKV⟩
                      case measure => simp [intOf]; omega
                    · have n1 : ((r : Int) != (q : Int)) = true := by simp; omega
                      by_cases ho : cc.c.o = 0
                      · have o2 : (cc.c.o != 0) = false := by simp [ho]
                        clear hap hrq ho
                        go_wp2_with fail
                        go_roundw
                        case rel => exact ⟨q + 1, by omega, by go_num, HKV⟩
                        case measure => simp [intOf]; omega
                      · have o2 : (cc.c.o != 0) = true := by simp [ho]
                        have o3 : (cc.c.o == dd.c.o) = false := by simpa using hap hrq ho
                        clear hap hrq ho
                        go_wp2_with fail
                        go_roundw
                        case rel => exact ⟨q + 1, by omega, by go_num, HKV⟩
                        case measure => simp [intOf]; omega
                  · obtain rfl : q = n5 := by omega
                    have HKV := hv
                    clear hv y2 hlt16
                    go_wp2_with fail
                    go_loopw [144] (fun i wr => ∃ (u : Nat), u ≤ n6 ∧ i = .int .i64 u ∧ Hid (Below (wr2.alloc (.cells #[.int .i64 cc.id, .int .i64 cc.c.s, .int .i64 cc.c.o, .int .u64 cc.ep, .int .u64 cc.c.f, .int .u64 cc.t] 39)).heap.size (wr2.alloc (.cells #[.int .i64 cc.id, .int .i64 cc.c.s, .int .i64 cc.c.o, .int .u64 cc.ep, .int .u64 cc.c.f, .int .u64 cc.t] 39)) wr)) (fun i _ => n6 - (intOf i).toNat)
                    case atStart => exact ⟨0, Nat.zero_le _, rfl, HKV⟩
                    case round =>
                      obtain ⟨u, hu, rfl, hv⟩ := hrel
                      clear HKV
                      have hx16 := (hv.out.block wr2.heap.size (by rw [HSZ.out]; omega)).trans HBC.out
                      obtain ⟨y2, _⟩ := cellsAt hx16 2 (v := .int .i64 cc.c.o) rfl
                      clear hx16
                      by_cases hltu : u < n6
                      · have hul : u < p4.row.length := by rw [HN6.out]; exact hltu
                        obtain ⟨ad7, rfl, _, hcc⟩ := HR6.out.at_ hul
                        have z0 := hcc wr (kp_trans HKA.out hv.out)
                        have has := HAS.out _ (List.getElem_mem hul)
                        clear hcc
                        generalize p4.row[u] = yy at *
                        have o3 : (yy == cc.c.o) = false := by simpa using has
                        clear has
                        go_wp2_with fail
                        go_roundw
                        case rel => exact ⟨u + 1, by omega, by go_num, hv⟩
                        case measure => simp [intOf]; omega
                      · obtain rfl : u = n6 := by omega
                        have HKW := Lib.hid (kp_trans HKA.out hv.out)
                        clear hv
                        go_wp2_with fail
                        go_roundw
                        case rel => exact ⟨r + 1, by omega, by go_num, HKW⟩
                        case measure => simp [intOf]; omega
        · obtain rfl : r = n5 := by omega
          have HKZ := Lib.hid (HS6.out.next hw.out)
          clear hw
          go_wp2_with fail
          go_roundw
          case rel => exact ⟨k + 1, p4, by omega, by go_num, HKN, HKZ⟩
          case measure => simp [intOf]; omega
    · have HLW := Lib.hid hD.out.low
      clear hD HS2 HK0
      go_wp2_with fail
      go_ret
      exact ⟨rfl, HLW.out⟩
end
end Go.Proofs.Ytkbaljdpnopbmaa
