/-
  What the document's own All of layer 2 does: contract.
-/
import Derived.Test.YtmohgfmknkfcaaaFrameH
import Derived.Test.YtmohgfmknkfcaaaFrameR
namespace Go.Proofs.Ytmohgfmknkfcaaa
open Go.RowKit

/-- a row of the document's frames, of the call's own -/
structure RO (w : World) (base : Nat) (A : Option Addr) (n c : Nat) (rs : List Rep) : Prop where
  own : w.ownsRow base 30 2 (.slice A n c) n (repCells rs)
  body : ∀ r ∈ rs, Ow w base r.p.A r.p.l r.p.c r.p.bs
theorem RO.len {w : World} {base n c : Nat} {A : Option Addr} {rs : List Rep} (h : RO w base A n c rs) : rs.length = n := by
  have := h.own.1
  rw [repCells_length] at this
  omega
theorem RO.next {w w' : World} {base n c : Nat} {A : Option Addr} {rs : List Rep} (h : RO w base A n c rs) (hb : Below w.heap.size w w') : RO w' base A n c rs := ⟨own_below_s h.own hb (Nat.le_refl _), fun r hr => (h.body r hr).next hb⟩
theorem RO.fr {w : World} {base n c : Nat} {A : Option Addr} {rs : List Rep} (h : RO w base A n c rs) : FR w A n rs := ⟨h.len, Rd.of_own2 h.own, fun r hr => (h.body r hr).sl⟩
theorem RO.push {w w' : World} {base n c : Nat} {A : Option Addr} {rs : List Rep} {v : Value} (h : RO w base A n c rs) (r : Rep) (hr : Ow w base r.p.A r.p.l r.p.c r.p.bs) (ho : w'.ownsRow base 30 2 v (n + 1) (repCells rs ++ [.int .u8 (r.k.toNat : Int), .slice r.p.A r.p.l r.p.c])) (hg : w.grownBy w' (Value.slice A n c).ownBlock) :
    ∃ A' c', v = .slice A' (n + 1) c' ∧ RO w' base A' (n + 1) c' (rs ++ [r]) := by
  obtain ⟨A', c', rfl, _, _⟩ := own_form_s ho
  refine ⟨A', c', rfl, ⟨by rw [repCells_append]; simpa [repCells, Rep.cells] using ho, fun q hq => ?_⟩⟩
  have hq' : Ow w base q.p.A q.p.l q.p.c q.p.bs := by
    rcases List.mem_append.1 hq with h1 | h1
    · exact h.body q h1
    · simp at h1; subst h1; exact hr
  exact ⟨own_apart hq'.own h.own (by decide) hg, hq'.len, hq'.cap, hq'.most⟩

def AllTo (args : Array Value) (w : World) (l : Nat) (r : List (UInt8 × List UInt8) × List UInt8 × Int) : Prop :=
  Calls Try.prog 18 args w fun e w' => ∃ A' n c' rs A2 l2 c2, e = .returned (.tuple #[.slice A' n c', .slice A2 l2 c2, .int .i64 r.2.2]) ∧ says rs = r.1 ∧ FR w' A' n rs ∧ n ≤ l ∧ Ow w' w.heap.size A2 l2 c2 r.2.1 ∧ Below w.heap.size w w'

set_option maxHeartbeats 1000000 in
theorem rall_any (w : World) (bs : List UInt8) (A : Option Addr) (l c : Nat) (hr : Sl w w.heap.size A l c bs) (hl : l ≤ 800000) : AllTo #[.slice A l c] w l (allF bs) := by
  unfold AllTo
  obtain ⟨i0, hi, hz0, hz1, hz2⟩ := info_parts rinfo
  obtain ⟨j0, hj, hy0, hy1, hy2⟩ := info_parts u8info
  go_enter Try.func18, Try.ntmps18
  go_wp2_with fail
  go_loopw [0, 5] (fun v0 v5 wr => ∃ A1 l1 c1 cur A2 n c2 rs, v0 = .slice A1 l1 c1 ∧ v5 = .slice A2 n c2 ∧ Sl wr w.heap.size A1 l1 c1 cur ∧ RO wr w.heap.size A2 n c2 rs ∧ Hid (allF bs = (says rs ++ (allF cur).1, (allF cur).2)) ∧ n + l1 ≤ l ∧ Below w.heap.size w wr) (fun v0 _ _ => lenV v0)
  case atStart =>
    refine ⟨A, l, c, bs, _, 0, _, [], rfl, rfl, hr.below (kp_new _ _) (Nat.le_refl _), ⟨?_, fun r hr => by simp at hr⟩, Lib.hid (by simp [says]), by omega, kp_new _ _⟩
    exact own_new_s w w.heap.size 2 30 0 [] rfl (Nat.le_refl _) (Nat.zero_le _)
  case round =>
    obtain ⟨A1, l1, c1, cur, A2, n, c2, rs, rfl, rfl, hs, hf, HA, hnl, hb1⟩ := hrel
    have hszb := hb1.size
    have hread := rread_any A1 cur l1 c1 wr (hs.more hszb) (by omega)
    unfold AnsF at hread
    have hl1 := hs.len
    have hok := @readF_ok cur
    have hstep := @allF_step cur
    have hshort := @allF_short cur
    have hbad := @allF_bad cur
    generalize readF cur = R at *
    obtain ⟨k, body, m, xe⟩ := R
    simp only at hread hok hstep hshort hbad
    have HR := Lib.hid hread
    clear hread
    by_cases he0 : xe = 0
    · subst he0
      obtain ⟨hm0, hm1, hm3, hk0⟩ := hok rfl
      have HS := Lib.hid (hstep rfl)
      clear hok hstep hshort hbad
      rw [hl1] at hm1
      obtain ⟨A4, hsl4, hs4⟩ := hs.cut1 Try.prog 22 Try.underlying22 u8size (i := m) m rfl hm1
      go_wp2_with fail
      refine HR.out.mono ?_
      rintro e w1 ⟨A3, l3, c3, rfl, ho3, hb3⟩
      unfold frV
      have hf1 := (hf.next hb3)
      have ho3' := ho3.base hszb
      have hk1 := hb1.trans (hb3.mono hszb)
      have hsz1 := hk1.size
      have hsrc : ∀ X, Rd ((w1.alloc X).alloc (.cells #[.int .u8 (k.toNat : Int), .slice A3 l3 c3] 30)) (w1.heap.size + 1 + 1) (some ⟨w1.heap.size + 1, 0, none⟩) [.int .u8 (k.toNat : Int), .slice A3 l3 c3] := fun X => by
        have := Rd.new (w1.alloc X) 30 [.int .u8 (k.toNat : Int), .slice A3 l3 c3]
        simpa using this
      have HSRC := Lib.hid hsrc
      clear hsrc
      go_wp2_with (at_builtin; refine wpList_append_rds rfl _ _ _ rfl w.heap.size 30 i0 _ 2 32 Try.underlying37 hi hz0 hz1 hz2 rfl (by omega) _ n _ rfl ((hf1.own.alloc _).alloc _) _ _ _ _ [.int .u8 (k.toNat : Int), .slice A3 l3 c3] rfl rfl (HSRC.out _) (by simp [Value.oneCell']) (by unfold maxLen; omega) (by omega) (by simp; omega) ?_; intro v5 w5 hown5 hg5; obtain ⟨A5, c5, rfl, hf5⟩ := RO.push ((hf1.next (kp_new _ _)).next (kp_new _ _)) ⟨k, ⟨A3, l3, c3, body⟩⟩ ((ho3'.next (kp_new _ _)).next (kp_new _ _)) hown5 hg5; have hk5 := (((hb3.mono hszb).alloc hsz1 _).alloc (by simp; omega) _).trans (below_own_s ((hf1.own.alloc _).alloc _) hg5 (by simp; omega)))
      go_roundw
      case rel =>
        refine ⟨A4, l1 - m, c1 - m, cur.drop m, A5, n + 1, c5, rs ++ [⟨k, ⟨A3, l3, c3, body⟩⟩], rfl, rfl, ?_, hf5, ?_, by omega, hb1.trans hk5⟩
        · exact (hs4.below hk5 (Nat.le_refl _))
        · exact Lib.hid (by rw [HA.out, HS.out, says_append]; simp [says, Rep.says])
      case measure => simp [lenV]; omega
    · by_cases he3 : xe = 3
      · subst he3
        have HS := Lib.hid (hshort rfl)
        clear hok hstep hshort hbad
        go_wp2_with fail
        refine HR.out.mono ?_
        rintro e w1 ⟨A3, l3, c3, rfl, ho3, hb3⟩
        unfold frV
        have hk1 := hb1.trans (hb3.mono hszb)
        have hsz1 := hk1.size
        have kX := kp_new w1 (.cells #[.int .u8 (k.toNat : Int), .slice A3 l3 c3] 30)
        have hf2 := (hf.next hb3).next kX
        have hs2 := ((hs.more hszb).next hb3).next kX
        have hk2 := kp_trans hk1 kX
        generalize hwx : w1.alloc (.cells #[.int .u8 (k.toNat : Int), .slice A3 l3 c3] 30) = wx at *
        have HWX := Lib.hid hwx
        clear hwx kX
        have ho7 : Ow (wx.alloc (.cells #[] 5)) wx.heap.size (some ⟨wx.heap.size, 0, none⟩) 0 0 [] := Ow.new wx wx.heap.size (Nat.le_refl _) [] (by simp)
        have hs7 := hs2.next (kp_new wx (.cells #[] 5))
        have hsx : w1.heap.size + 1 = wx.heap.size := by rw [← HWX.out]; simp
        have HSX := Lib.hid hsx
        clear hsx
        go_wp2_with (at_builtin; (try rw [HWX.out]); (try rw [HSX.out]); refine wpList_append_rd rfl _ _ _ rfl wx.heap.size 5 j0 _ 1 Try.underlying22 hj hy0 hy1 hy2 rfl _ 0 _ rfl ho7.own _ _ _ _ (bvs cur) rfl (by rw [bvs_length]; exact hs.len) hs7.rd (bvs_one _) (by unfold maxLen; omega) (by omega) (by simp) ?_; intro v8 w8 hown8 hg8; rw [← bvs_append, List.nil_append, Nat.zero_add] at hown8; obtain ⟨A8, c8, rfl, ho8⟩ := Ow.mk' hown8)
        all_goals
          go_ret3
          have hA := HA.out
          rw [HS.out] at hA
          rw [hA]
          have hk8 := (kp_new wx (.cells #[] 5)).trans (below_own ho7.own hg8 (by simp))
          exact ⟨A2, n, c2, rs, A8, l1, c8, rfl, by simp, (hf2.next hk8).fr, by omega, ho8.base hk2.size, kp_trans hk2 hk8⟩
      · have HS := Lib.hid (hbad he0 he3)
        have e0 : (xe != 0) = true := by simpa using he0
        have e3 : (xe == 3) = false := by simpa using he3
        clear hok hstep hshort hbad he0 he3
        go_wp2_with fail
        refine HR.out.mono ?_
        rintro e w1 ⟨A3, l3, c3, rfl, ho3, hb3⟩
        unfold frV
        have hk1 := hb1.trans (hb3.mono hszb)
        go_wp2_with fail
        go_ret3
        have hA := HA.out
        rw [HS.out] at hA
        rw [hA]
        exact ⟨A2, n, c2, rs, none, 0, 0, rfl, by simp, ((hf.next hb3).next (kp_new _ _)).fr, by omega, Ow.nil _ _, kp_trans hk1 (kp_new _ _)⟩
end Go.Proofs.Ytmohgfmknkfcaaa
