/-
  What Feed of package frame does: contract.
-/
import Derived.Test.YtmklmakcampbbaaDoorFrameG
namespace Go.Proofs.YtmklmakcampbbaaDoor
open Go.RowKit
set_option maxRecDepth 100000

def lenV : Value → Nat
  | .slice _ l _ => l
  | _ => 0

/-- a row of frames, one frame more -/
theorem FO.push {w w' : World} {base n c : Nat} {A : Option Addr} {rs : List Rep} {v : Value} (h : FO w base A n c rs) (r : Rep) (hr : Ow w base r.p.A r.p.l r.p.c r.p.bs) (ho : w'.ownsRow base 28 2 v (n + 1) (repCells rs ++ [.int .u8 (r.k.toNat : Int), .slice r.p.A r.p.l r.p.c])) (hg : w.grownBy w' (Value.slice A n c).ownBlock) :
    ∃ A' c', v = .slice A' (n + 1) c' ∧ FO w' base A' (n + 1) c' (rs ++ [r]) := by
  obtain ⟨A', c', rfl, _, _⟩ := own_form_s ho
  refine ⟨A', c', rfl, ⟨by rw [repCells_append]; simpa [repCells, Rep.cells] using ho, fun q hq => ?_⟩⟩
  have hq' : Ow w base q.p.A q.p.l q.p.c q.p.bs := by
    rcases List.mem_append.1 hq with h1 | h1
    · exact h.body q h1
    · simp at h1; subst h1; exact hr
  exact ⟨own_apart hq'.own h.own (by decide) hg, hq'.len, hq'.cap, hq'.most⟩
theorem FO.alloc {w : World} {base n c : Nat} {A : Option Addr} {rs : List Rep} (h : FO w base A n c rs) (o : Obj) : FO (w.alloc o) base A n c rs := h.next (kp_new _ _)

set_option maxHeartbeats 1000000 in
theorem takeOff_any (w : World) (b : Nat) (X : Value) (x : Int) (bs : List UInt8) (A : Option Addr) (l c : Nat) (hb : w.heap[b]? = some (.cells #[X, .int .i64 x] 80 (0, 0))) (hr : Sl w w.heap.size A l c bs) (hl : l ≤ 800000) :
    Calls Tryd.prog 39 #[.slice A l c, .func (.func 41) #[.pointer (some ⟨b, 0, none⟩)] #[]] w fun e w' => ∃ A' n c' rs, e = .returned (.tuple #[.slice A' n c', .int .i64 (allF bs).2.2]) ∧ says rs = (allF bs).1 ∧ FO w' w.heap.size A' n c' rs ∧ n ≤ l ∧ Dec w' b w.heap.size (allF bs).2.1 x ∧ Bel b w w' := by
  obtain ⟨i0, hi, hz0, hz1, hz2⟩ := info_parts finfo
  have hlt : b < w.heap.size := (Array.getElem?_eq_some_iff.1 hb).1
  have HB := Lib.hid hb
  clear hb
  go_enter Tryd.func39, Tryd.ntmps39
  go_wp2_with fail
  go_step3
  go_wp2_with fail
  go_step3
  go_wp2_with fail
  go_loopw [0, 6] (fun v0 v6 wr => ∃ A1 l1 c1 cur A2 n c2 rs, v0 = .slice A1 l1 c1 ∧ v6 = .slice A2 n c2 ∧ Sl wr w.heap.size A1 l1 c1 cur ∧ FO wr w.heap.size A2 n c2 rs ∧ Hid (allF bs = (says rs ++ (allF cur).1, (allF cur).2)) ∧ n + l1 ≤ l ∧ Below w.heap.size w wr) (fun v0 _ _ => lenV v0)
  case atStart => exact ⟨A, l, c, bs, none, 0, 0, [], rfl, rfl, hr, FO.nil _ _, Lib.hid (by simp [says]), by omega, Below.refl _ _⟩
  case round =>
    obtain ⟨A1, l1, c1, cur, A2, n, c2, rs, rfl, rfl, hs, hf, HA, hnl, hb1⟩ := hrel
    have hszb := hb1.size
    have hread := read_any A1 cur l1 c1 wr (hs.more hszb) (by omega)
    unfold AnsF at hread
    have hl1 := hs.len
    have hok := @readF_ok cur
    have hstep := @allF_step cur
    have hshort := @allF_short cur
    have hbad := @allF_bad cur
    generalize readF cur = R at *
    obtain ⟨k, body, m, xe⟩ := R
    simp only at hread hok hstep hshort hbad
    have HR := Lib.hid hread
    clear hread
    by_cases he0 : xe = 0
    · subst he0
      obtain ⟨hm0, hm1, hm3, hk0⟩ := hok rfl
      have HS := Lib.hid (hstep rfl)
      clear hok hstep hshort hbad
      rw [hl1] at hm1
      obtain ⟨A4, hsl4, hs4⟩ := hs.cut1 Tryd.prog 26 Tryd.underlying26 u8size (i := m) m rfl hm1
      go_wp2_with fail
      refine HR.out.mono ?_
      rintro e w1 ⟨A3, l3, c3, rfl, ho3, hb3⟩
      unfold frV
      have hf1 := (hf.next hb3)
      have ho3' := ho3.base hszb
      have hk1 := hb1.trans (hb3.mono hszb)
      have hsz1 := hk1.size
      have hsrc : ∀ X, Rd ((w1.alloc X).alloc (.cells #[.int .u8 (k.toNat : Int), .slice A3 l3 c3] 28)) (w1.heap.size + 1 + 1) (some ⟨w1.heap.size + 1, 0, none⟩) [.int .u8 (k.toNat : Int), .slice A3 l3 c3] := fun X => by
        have := Rd.new (w1.alloc X) 28 [.int .u8 (k.toNat : Int), .slice A3 l3 c3]
        simpa using this
      have HSRC := Lib.hid hsrc
      clear hsrc
      go_wp2_with (at_builtin; refine wpList_append_rds rfl _ _ _ rfl w.heap.size 28 i0 _ 2 32 Tryd.underlying58 hi hz0 hz1 hz2 rfl (by omega) _ n _ rfl ((hf1.own.alloc _).alloc _) _ _ _ _ [.int .u8 (k.toNat : Int), .slice A3 l3 c3] rfl rfl (HSRC.out _) (by simp [Value.oneCell']) (by unfold maxLen; omega) (by omega) (by simp; omega) ?_; intro v5 w5 hown5 hg5; obtain ⟨A5, c5, rfl, hf5⟩ := FO.push ((hf1.alloc _).alloc _) ⟨k, ⟨A3, l3, c3, body⟩⟩ ((ho3'.next (kp_new _ _)).next (kp_new _ _)) hown5 hg5; have hk5 := (((hb3.mono hszb).alloc hsz1 _).alloc (by simp; omega) _).trans (below_own_s ((hf1.own.alloc _).alloc _) hg5 (by simp; omega)))
      go_roundw
      case rel =>
        refine ⟨A4, l1 - m, c1 - m, cur.drop m, A5, n + 1, c5, rs ++ [⟨k, ⟨A3, l3, c3, body⟩⟩], rfl, rfl, ?_, hf5, ?_, by omega, hb1.trans hk5⟩
        · exact (hs4.below hk5 (Nat.le_refl _))
        · exact Lib.hid (by rw [HA.out, HS.out, says_append]; simp [says, Rep.says])
      case measure => simp [lenV]; omega
    · by_cases he3 : xe = 3
      · subst he3
        have HS := Lib.hid (hshort rfl)
        clear hok hstep hshort hbad
        go_wp2_with fail
        refine HR.out.mono ?_
        rintro e w1 ⟨A3, l3, c3, rfl, ho3, hb3⟩
        unfold frV
        have hk1 := hb1.trans (hb3.mono hszb)
        have hsz1 := hk1.size
        go_wp2_with fail
        refine (keep_any _ b X x A1 l1 c1 cur (((hk1.alloc hsz1 _).block b hlt).trans HB.out) ((hs.below ((hb3.mono hszb).alloc hsz1 _) (Nat.le_refl _)).more (by simp; omega)) (by omega)).mono ?_
        rintro e w6 ⟨rfl, hd6, hb6⟩
        go_wp2_with fail
        rw [Exit.noGoto_ret]
        go_ret2
        have hA := HA.out
        rw [HS.out] at hA
        rw [hA]
        exact ⟨A2, n, c2, rs, rfl, by simp, ((hf.next hb3).alloc _).bel hb6 hlt, by omega, hd6.base (by simp; omega), (Bel.of b (hk1.alloc hsz1 _)).trans hb6⟩
      · have HS := Lib.hid (hbad he0 he3)
        have e0 : (xe == 0) = false := by simpa using he0
        have e3 : (xe == 3) = false := by simpa using he3
        clear hok hstep hshort hbad he0 he3
        go_wp2_with fail
        refine HR.out.mono ?_
        rintro e w1 ⟨A3, l3, c3, rfl, ho3, hb3⟩
        unfold frV
        have hk1 := hb1.trans (hb3.mono hszb)
        have hsz1 := hk1.size
        go_wp2_with fail
        refine (keep_any _ b X x none 0 0 [] (((hk1.alloc hsz1 _).block b hlt).trans HB.out) (Sl.nil _ _) (by omega)).mono ?_
        rintro e w6 ⟨rfl, hd6, hb6⟩
        go_wp2_with fail
        rw [Exit.noGoto_ret]
        go_ret2
        have hA := HA.out
        rw [HS.out] at hA
        rw [hA]
        exact ⟨A2, n, c2, rs, rfl, by simp, ((hf.next hb3).alloc _).bel hb6 hlt, by omega, hd6.base (by simp; omega), (Bel.of b (hk1.alloc hsz1 _)).trans hb6⟩

/-- what Feed tells, and what it leaves: the frames, what is kept, the error -/
def feedF (kept : List UInt8) (x : Int) (bs : List UInt8) : List (UInt8 × List UInt8) × List UInt8 × Int :=
  if x = 0 then allF (kept ++ bs) else ([], kept, x)

def FeedsTo (w : World) (b base : Nat) (args : Array Value) (r : List (UInt8 × List UInt8) × List UInt8 × Int) : Prop :=
  Calls Tryd.prog 22 args w fun e w' => ∃ A' n c' rs, e = .returned (.tuple #[.slice A' n c', .int .i64 r.2.2]) ∧ says rs = r.1 ∧ FO w' w.heap.size A' n c' rs ∧ n ≤ 800000 ∧ Dec w' b base r.2.1 r.2.2 ∧ Bel b w w'

set_option maxHeartbeats 1000000 in
theorem feed_fine (w : World) (b base : Nat) (kept bs : List UInt8) (h : Dec w b base kept 0) (hbase : base ≤ w.heap.size) (A : Option Addr) (l c : Nat) (hr : Sl w w.heap.size A l c bs) (hl : kept.length + l ≤ 800000) :
    FeedsTo w b base #[.pointer (some ⟨b, 0, none⟩), .slice A l c] (allF (kept ++ bs)) := by
  generalize hR0 : allF (kept ++ bs) = R
  have hR := Lib.hid hR0
  clear hR0
  obtain ⟨r1, r2, r3⟩ := R
  have hlt := h.lt
  obtain ⟨A0, l0, cc0, hb, ho⟩ := h.at_
  obtain ⟨c0, d1, f0, f1⟩ := two_cells hb
  have hl0 := ho.len
  have hl1 := hr.len
  have HB := Lib.hid hb
  have hszs : sizes [⟨A0, l0, cc0, kept⟩, ⟨A, l, c, bs⟩] = l0 + l := by simp [sizes, flat, hl0, hl1]
  have HZ := Lib.hid hszs
  clear hb hszs
  have hll : l0 + l ≤ 800000 := by omega
  clear hl0 hl1 hl
  unfold FeedsTo
  go_enter Tryd.func22, Tryd.ntmps22
  go_wp2_with fail
  refine (concat_new w [⟨A0, l0, cc0, kept⟩, ⟨A, l, c, bs⟩] 2 rfl (by omega) ?_ (by rw [HZ.out]; omega) (kept ++ bs) (Lib.hid (by simp [flat])) (l0 + l) HZ.out).mono ?_
  · intro p hp
    simp only [List.mem_cons, List.not_mem_nil, or_false] at hp
    rcases hp with rfl | rfl
    · exact ho.sl
    · exact hr
  rintro e w1 ⟨A1, c1, rfl, ho1, hb1⟩
  go_wp2_with fail
  refine (takeOff_any w1 b (.slice A0 l0 cc0) 0 (kept ++ bs) A1 (l0 + l) c1 ((hb1.block b hlt).trans HB.out) ho1.sl hll).mono ?_
  rw [hR.out]
  rintro e w2 ⟨A2, n2, c2, rs, rfl, hs2, hf2, hn2, hd2, hb2⟩
  obtain ⟨A3, l3, c3, hb3, ho3⟩ := hd2.at_
  obtain ⟨p0, p1, q0, q1⟩ := two_cells hb3
  have HB3 := Lib.hid hb3
  have hs1 := hb1.size
  clear hb3 hd2 d1 c0 f0 f1
  simp only at hs2 ho3 ⊢
  go_wp2_with fail
  go_ret2
  refine ⟨A2, n2, c2, rs, rfl, hs2, ?_, by omega, ⟨A3, l3, c3, (two_set HB3.out _).2, ?_⟩, ((Bel.of b hb1).trans hb2).setCell _ rfl _⟩
  · exact (hf2.base hs1).bel ((Bel.of b (Below.refl _ _)).setCell _ rfl _) hlt
  · exact ((ho3.base hs1).setCell hlt _).base hbase

set_option maxHeartbeats 1000000 in
theorem feed_no (w : World) (b base : Nat) (kept : List UInt8) (x : Int) (h : Dec w b base kept x) (A : Option Addr) (l c : Nat) (hx : x ≠ 0) :
    FeedsTo w b base #[.pointer (some ⟨b, 0, none⟩), .slice A l c] ([], kept, x) := by
  have hd := h
  obtain ⟨A0, l0, cc0, hb, ho⟩ := h.at_
  obtain ⟨c0, d1, f0, f1⟩ := two_cells hb
  have ex : (x != 0) = true := by simpa using hx
  clear hb
  unfold FeedsTo
  go_enter Tryd.func22, Tryd.ntmps22
  go_wp2_with fail
  go_region
  all_goals
    go_wp2_with fail
    go_ret2
    exact ⟨none, 0, 0, [], rfl, rfl, FO.nil _ _, by omega, hd.next (kp_drewN w 1), Bel.of b (kp_drewN w 1)⟩

theorem feed_any (w : World) (b base : Nat) (kept bs : List UInt8) (x : Int) (h : Dec w b base kept x) (hbase : base ≤ w.heap.size) (A : Option Addr) (l c : Nat) (hr : Sl w w.heap.size A l c bs) (hl : kept.length + l ≤ 800000) :
    FeedsTo w b base #[.pointer (some ⟨b, 0, none⟩), .slice A l c] (feedF kept x bs) := by
  unfold feedF
  by_cases hx : x = 0
  · subst hx
    rw [if_pos rfl]
    exact feed_fine w b base kept bs h hbase A l c hr hl
  · rw [if_neg hx]
    exact feed_no w b base kept x h A l c hx
end Go.Proofs.YtmklmakcampbbaaDoor
