/-
  Layer 13: the document's Answer, Asks; the law's asks, large; rows of probes that are asked, rows of acts: contracts.
-/
import Derived.Test.YtgneieelfapmcaaPrT
namespace Go.Proofs.Ytgneieelfapmcaa
open Go.RowKit
set_option maxRecDepth 100000

theorem akC_length : ∀ ts : List (Int × Int), (akC ts).length = ts.length * 2
  | [] => rfl
  | r :: rs => by
    have := akC_length rs
    simp only [akC, List.flatMap_cons, List.length_append, List.length_cons, List.length_nil] at this ⊢
    omega
theorem akC_at : ∀ (rs : List (Int × Int)) (j : Nat) (h : j < rs.length), (akC rs)[j * 2]? = some (.int .i64 rs[j].1) ∧ (akC rs)[j * 2 + 1]? = some (.int .u64 rs[j].2)
  | [], _, h => by simp at h
  | r :: rs, 0, _ => by simp [akC]
  | r :: rs, j + 1, h => by
    have := akC_at rs j (by simpa using h)
    have e1 : (j + 1) * 2 = j * 2 + 2 := by omega
    simp only [akC, List.flatMap_cons] at this ⊢
    rw [e1]
    simpa using this
/-- a row of wide elements that the call owns is read -/
theorem Rd.of_own_s {w : World} {A : Option Addr} {xs : List Value} {base n c size : Nat} {e : TypeId} (h : w.ownsRow base e size (.slice A n c) n xs) : Rd w w.heap.size A xs := by
  rcases h.2 with ⟨_, hn⟩ | ⟨g, cap, cur, hv, _, hg, _⟩
  · exact .inl (List.eq_nil_of_length_eq_zero (by have := h.1; rw [hn, Nat.zero_mul] at this; exact this))
  · have hA : A = some ⟨g, 0, none⟩ := by injection hv
    subst hA
    exact .inr ⟨_, rfl, (Array.getElem?_eq_some_iff.1 hg).1, h.cells (g := g) rfl⟩
/-- a row of who is asked, that is read -/
structure AK (w : World) (A : Option Addr) (n : Nat) (ts : List (Int × Int)) : Prop where
  len : ts.length = n
  rd : Rd w w.heap.size A (akC ts)
theorem AK.next {w w' : World} {A : Option Addr} {n : Nat} {ts : List (Int × Int)} (h : AK w A n ts) (hb : Below w.heap.size w w') : AK w' A n ts := ⟨h.len, (h.rd.below hb (Nat.le_refl _)).more hb.size⟩
theorem AK.off {w w' : World} {A : Option Addr} {n : Nat} {ts : List (Int × Int)} (h : AK w A n ts) (hz : w.heap.size ≤ w'.heap.size) (hk : ∀ ad, A = some ad → w'.heap[ad.block]? = w.heap[ad.block]?) : AK w' A n ts := ⟨h.len, h.rd.offR hz hk⟩
theorem AK.of_own {w : World} {base n c : Nat} {e : TypeId} {A : Option Addr} {ts : List (Int × Int)} (h : w.ownsRow base e 2 (.slice A n c) n (akC ts)) : AK w A n ts := ⟨by have := h.1; rw [akC_length] at this; omega, Rd.of_own_s h⟩
theorem AK.at_ {w : World} {A : Option Addr} {n : Nat} {ts : List (Int × Int)} (h : AK w A n ts) {j : Nat} (hj : j < ts.length) : ∃ ad, A = some ad ∧ ad.block < w.heap.size ∧ ∀ w', Below w.heap.size w w' → w'.cell? (ad.add (j * 2)) = some (.int .i64 ts[j].1) ∧ w'.cell? ⟨(ad.add (j * 2)).block, (ad.add (j * 2)).off + 1, none⟩ = some (.int .u64 ts[j].2) := by
  obtain ⟨ad, hA, hb, hc⟩ := h.rd.addr (by rw [akC_length]; omega)
  have key : ∀ (w' : World) (i : Nat) (v : Value), Below w.heap.size w w' → (akC ts)[j * 2 + i]? = some v → w'.cell? (ad.add (j * 2 + i)) = some v := fun w' i v hw hv => by
    rw [hw.cell (by rw [add_block]; exact hb)]
    exact hc _ _ hv
  obtain ⟨e0, e1⟩ := akC_at ts j hj
  have a1 : ∀ i, i ≠ 0 → (⟨(ad.add (j * 2)).block, (ad.add (j * 2)).off + i, none⟩ : Addr) = ad.add (j * 2 + i) := fun i hi => by rw [← add_add]; unfold Addr.add; simp [hi]
  refine ⟨ad, hA, hb, fun w' hw => ⟨key w' 0 _ hw e0, ?_⟩⟩
  rw [a1 1 (by decide)]
  exact key w' 1 _ hw e1

set_option maxHeartbeats 4000000 in
theorem rasks_ok (A B : Option Addr) (n k c d : Nat) (xs ys : List (Int × Int)) (w : World) (hx : AK w A n xs) (hy : AK w B k ys) (hn : n ≤ 1000) (hk : k ≤ 1000) (bo : Bool) (hbo : Hid (decide (xs = ys) = bo)) :
    Calls Try.prog 12 #[.slice A n c, .slice B k d] w fun e w' => e = .returned (.bool bo) ∧ Below w.heap.size w w' := by
  have HX := Lib.hid hx
  have HY := Lib.hid hy
  have hlx := hx.len
  have hly := hy.len
  clear hx hy
  by_cases hnk : n = k
  · subst hnk
    have HLX := Lib.hid hlx
    have HLY := Lib.hid hly
    clear hlx hly
    go_enter Try.func12, Try.ntmps12
    go_wp2_with fail
    go_loopw [5] (fun i wr => ∃ q : Nat, q ≤ n ∧ i = .int .i64 q ∧ Hid (∀ j (hj : j < xs.length) (hj2 : j < ys.length), j < q → xs[j] = ys[j]) ∧ Hid (Below w.heap.size w wr)) (fun i _ => n - (intOf i).toNat)
    case atStart => exact ⟨0, Nat.zero_le _, rfl, Lib.hid (fun j _ _ h => absurd h (Nat.not_lt_zero _)), Lib.hid (Below.refl _ _)⟩
    case round =>
      obtain ⟨q, hq, rfl, he, hw⟩ := hrel
      by_cases hlt : q < n
      · have hqx : q < xs.length := by rw [HLX.out]; exact hlt
        have hqy : q < ys.length := by rw [HLY.out]; exact hlt
        obtain ⟨ax, rfl, _, cx⟩ := HX.out.at_ hqx
        obtain ⟨ay, rfl, _, cy⟩ := HY.out.at_ hqy
        obtain ⟨d1, d2⟩ := cx wr hw.out
        obtain ⟨d3, d4⟩ := cy wr hw.out
        clear cx cy
        have hi0 : (0 : Int) ≤ (q : Int) := by omega
        have hi1 : (q : Int) < (n : Int) := by omega
        have hnx : (xs[q] = ys[q]) ↔ (xs[q].1 = ys[q].1 ∧ xs[q].2 = ys[q].2) := Prod.ext_iff
        by_cases hxy : xs[q] = ys[q]
        · have he2 : Hid (∀ j (hj : j < xs.length) (hj2 : j < ys.length), j < q + 1 → xs[j] = ys[j]) := Lib.hid fun j hj hj2 hjq => by
            by_cases h : j = q
            · subst h; exact hxy
            · exact he.out j hj hj2 (by omega)
          rw [hxy] at d1 d2
          clear he hxy hnx
          generalize ys[q].1 = y1 at *
          generalize ys[q].2 = y2 at *
          go_wp2_with fail
          go_quiet (fail)
          have kd := kp_drewN wr nq
          have HB := Lib.hid (hw.out.trans (kd.mono hw.out.size))
          generalize wr.drewN nq = wd at *
          clear kd hw d1 d2 d3 d4
          go_wp2_with fail
          go_roundw
          case rel => exact ⟨q + 1, by omega, by go_num, he2, HB⟩
          case measure => simp [intOf]; omega
        · have hb : bo = false := by
            rw [← hbo.out]
            exact decide_eq_false fun h => hxy (by subst h; rfl)
          subst hb
          rw [hnx] at hxy
          clear he hnx
          generalize xs[q].1 = x1 at *
          generalize xs[q].2 = x2 at *
          generalize ys[q].1 = y1 at *
          generalize ys[q].2 = y2 at *
          by_cases h1 : x1 = y1
          · have h2 : (x2 == y2) = false := by simpa using fun e => hxy ⟨h1, e⟩
            subst h1
            clear hxy
            go_wp2_with fail
            go_quiet (fail)
            have kd := kp_drewN wr nq
            have HB := Lib.hid (hw.out.trans (kd.mono hw.out.size))
            generalize wr.drewN nq = wd at *
            clear kd hw d1 d2 d3 d4
            go_wp2_with fail
            go_ret
            exact ⟨rfl, HB.out⟩
          · have h1' : (x1 == y1) = false := by simpa using h1
            clear hxy h1
            go_wp2_with fail
            go_quiet (fail)
            have kd := kp_drewN wr nq
            have HB := Lib.hid (hw.out.trans (kd.mono hw.out.size))
            generalize wr.drewN nq = wd at *
            clear kd hw d1 d2 d3 d4
            go_wp2_with fail
            go_ret
            exact ⟨rfl, HB.out⟩
      · obtain rfl : q = n := by omega
        have hb : bo = true := by
          rw [← hbo.out]
          exact decide_eq_true (List.ext_getElem (by rw [HLX.out, HLY.out]) fun j h1 h2 => he.out j h1 h2 (by have := HLX.out; omega))
        subst hb
        clear he
        go_wp2_with fail
        go_ret
        exact ⟨rfl, hw.out⟩
  · have hb : bo = false := by
      rw [← hbo.out]
      exact decide_eq_false fun h => hnk (by subst h; omega)
    subst hb
    have hne : ((n : Int) == (k : Int)) = false := by simp; omega
    clear hlx hly hbo
    go_enter Try.func12, Try.ntmps12
    go_wp2_with fail
    go_ret
    exact ⟨rfl, Below.refl _ _⟩

set_option maxHeartbeats 4000000 in
theorem lasks_ok (A : Option Addr) (n c : Nat) (ts : List (Int × Int)) (w : World) (hx : AK w A n ts) (hn : n ≤ 1000) :
    Calls Try.prog 13 #[.slice A n c] w fun e w' => ∃ D g, e = .returned (.slice D n g) ∧ w'.ownsRow w.heap.size 55 2 (.slice D n g) n (akC ts) ∧ Below w.heap.size w w' := by
  have HX := Lib.hid hx
  have HL := Lib.hid hx.len
  obtain ⟨s0, si, sz0, sz1, sz2⟩ := info_parts raskinfo
  have HO0 : Hid ((w.alloc (.cells #[] 55)).ownsRow w.heap.size 55 2 (.slice (some ⟨w.heap.size, 0, none⟩) 0 0) 0 (akC (ts.take 0))) := Lib.hid (own_new_s w w.heap.size 2 55 0 [] rfl (Nat.le_refl _) (Nat.zero_le _))
  have kw := Lib.hid (kp_new w (.cells #[] 55))
  clear hx
  go_enter Try.func13, Try.ntmps13
  go_wp2_with fail
  go_loopw [3, 9] (fun o i wr => ∃ (q e : Nat) (D : Option Addr), q ≤ n ∧ i = .int .i64 q ∧ o = .slice D q e ∧ Hid (wr.ownsRow w.heap.size 55 2 (.slice D q e) q (akC (ts.take q))) ∧ Hid (Below w.heap.size w wr)) (fun _ i _ => n - (intOf i).toNat)
  case atStart => exact ⟨0, 0, _, Nat.zero_le _, rfl, rfl, HO0, kw⟩
  case round =>
    obtain ⟨q, e, D, hq, rfl, rfl, ho, hb⟩ := hrel
    have hwr : w.heap.size ≤ wr.heap.size := hb.out.size
    by_cases hlt : q < n
    · have hql : q < ts.length := by rw [HL.out]; exact hlt
      have HNX : Hid (akC (ts.take (q + 1)) = akC (ts.take q) ++ [.int .i64 ts[q].1, .int .u64 ts[q].2]) := Lib.hid (by rw [List.take_succ_eq_append_getElem hql, akC_append]; simp [akC])
      obtain ⟨ad, rfl, _, hc⟩ := HX.out.at_ hql
      obtain ⟨d1, d2⟩ := hc wr hb.out
      clear hc
      generalize ts[q].1 = x1 at *
      generalize ts[q].2 = x2 at *
      have HO1 := Lib.hid ((ho.out.alloc (.cells #[.int .i64 x1, .int .u64 x2] 53)).alloc (.cells #[.int .i64 x1, .int .u64 x2] 55))
      have HSRC : Hid (Rd ((wr.alloc (.cells #[.int .i64 x1, .int .u64 x2] 53)).alloc (.cells #[.int .i64 x1, .int .u64 x2] 55)) (wr.heap.size + 1 + 1) (some ⟨wr.heap.size + 1, 0, none⟩) [.int .i64 x1, .int .u64 x2]) := Lib.hid (by
        have := Rd.new (wr.alloc (.cells #[.int .i64 x1, .int .u64 x2] 53)) 55 [.int .i64 x1, .int .u64 x2]
        rwa [World.size_alloc] at this)
      have KA := Lib.hid (kp_alloc (kp_alloc hb.out (.cells #[.int .i64 x1, .int .u64 x2] 53)) (.cells #[.int .i64 x1, .int .u64 x2] 55))
      have HSW := Lib.hid KA.out.size
      clear ho
      go_wp2_with (at_builtin; refine wpList_append_rds rfl _ _ _ rfl w.heap.size 55 s0 _ 2 16 Try.underlying39 si sz0 sz1 sz2 rfl (by omega) _ q _ rfl HO1.out _ _ _ _ [.int .i64 x1, .int .u64 x2] rfl rfl HSRC.out (by simp [Value.oneCell']) (by unfold maxLen; omega) (by omega) HSW.out ?_; intro v3 w3 hown3 hg3; obtain ⟨D3, e3, rfl, _, _⟩ := own_form_s hown3; have HO3 := Lib.hid hown3; have HK3 := Lib.hid (KA.out.trans (below_own_s HO1.out hg3 HSW.out)); clear hown3 hg3)
      go_roundw
      case rel => exact ⟨q + 1, e3, D3, by omega, by go_num, rfl, Lib.hid (by rw [HNX.out]; exact HO3.out), HK3⟩
      case measure => simp [intOf]; omega
    · obtain rfl : q = n := by omega
      rw [List.take_of_length_le (by rw [HL.out]; exact Nat.le_refl _)] at ho
      go_wp2_with fail
      go_ret
      exact ⟨D, e, rfl, ho.out, hb.out⟩
end Go.Proofs.Ytgneieelfapmcaa
