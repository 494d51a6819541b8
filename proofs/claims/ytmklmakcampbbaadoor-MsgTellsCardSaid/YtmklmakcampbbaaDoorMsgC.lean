/-
  The Body, the frame and the bytes of a message (bodyOf, Frame, Bytes of package msg): contracts.
-/
import Derived.Test.YtmklmakcampbbaaDoorMsgB
import Derived.Test.YtmklmakcampbbaaDoorNumT
import Derived.Test.YtmklmakcampbbaaDoorFrameD
import Derived.Laws.ResultCell
namespace Go.Proofs.YtmklmakcampbbaaDoor
open Go.RowKit
set_option maxRecDepth 100000

/-- numbers' bytes, of their sizes -/
def layN : List Nat → List Nat → List UInt8
  | s :: ss, n :: ns => be s n ++ layN ss ns
  | _, _ => []
theorem layN_next : ∀ {ss ns : List Nat} {j s n : Nat}, ss[j]? = some s → ns[j]? = some n → layN (ss.take (j + 1)) (ns.take (j + 1)) = layN (ss.take j) (ns.take j) ++ be s n
  | s :: ss, n :: ns, 0, _, _, hs, hn => by
    simp at hs hn
    subst hs hn
    simp [layN]
  | s :: ss, n :: ns, j + 1, _, _, hs, hn => by
    simp only [List.getElem?_cons_succ] at hs hn
    simp only [List.take_succ_cons, layN, layN_next hs hn, List.append_assoc]
  | [], _, _, _, _, hs, _ => by simp at hs
  | _ :: _, [], _, _, _, _, hn => by simp at hn
/-- a text's bytes -/
def txtB (t : ByteArray) : List UInt8 := be 2 t.size ++ t.data.toList
def layT (ts : List ByteArray) : List UInt8 := ts.flatMap txtB
theorem txtB_length (t : ByteArray) : (txtB t).length = 2 + t.size := by
  simp only [txtB, List.length_append, be_length, Array.length_toList]
  rfl
theorem layT_next (ts : List ByteArray) (j : Nat) (h : j < ts.length) : layT (ts.take (j + 1)) = layT (ts.take j) ++ txtB ts[j] := by
  rw [layT, layT, List.take_succ_eq_append_getElem h, List.flatMap_append]
  simp
/-- a message's Body -/
def layF (k : Nat) (ns : List Nat) (ts : List ByteArray) : List UInt8 := layN (szs k) ns ++ layT ts

theorem szs_len : ∀ k, k < 15 → (szs k).length ≤ 3 := by decide

set_option maxHeartbeats 1000000 in
theorem bodyOf_any (m : Mg) (k : Nat) (w : World) (hm : MR w m) (hl : Lay w) (hk : k < 15) (hmk : m.k = k) (hfn : fitN (szs k) m.ns = true) (hft : ∀ t ∈ m.ts, t.size ≤ 200) (hct : m.ts.length ≤ 20) :
    Calls Tryd.prog 24 #[m.v] w fun e w' => ∃ A' L c', e = .returned (.tuple #[.slice A' L c', .int .i64 0]) ∧ Ow w' w.heap.size A' L c' (layF k m.ns m.ts) ∧ L ≤ 5000 ∧ Below w.heap.size w w' := by
  obtain ⟨mk, A, l, c, ns, A', l', c', ts⟩ := m
  simp only at hmk hfn hft hct
  subst hmk
  have hv : Mg.v ⟨k, A, l, c, ns, A', l', c', ts⟩ = .agg #[.int .i64 (k : Int), .slice A l c, .slice A' l' c'] := rfl
  rw [hv]
  simp only
  have hln := Lib.hid hm.ln
  have hlt' := Lib.hid hm.lt
  have hl3 : l ≤ 3 := by have := szs_len k hk; have := fitN_len hfn; have := hln.out; simp only at this; omega
  have hl20 : l' ≤ 20 := by have := hlt'.out; simp only at this; omega
  have HLN : Hid (l = nums k) := Lib.hid (by rw [← szs_nums, ← fitN_len hfn]; exact hln.out.symm)
  have HF := Lib.hid ((fitN_iff (fitN_len hfn)).1 hfn)
  have HT := Lib.hid hft
  clear hfn hft hct
  go_enter Tryd.func24, Tryd.ntmps24
  go_wp2_with fail
  generalize hw1 : w.alloc (.cells #[.int .i64 (k : Int), .slice A l c, .slice A' l' c'] 25) = w1
  have k1 : Below w.heap.size w w1 := by rw [← hw1]; exact kp_new _ _
  have b1 : w1.heap[w.heap.size]? = some (.cells #[.int .i64 (k : Int), .slice A l c, .slice A' l' c'] 25 (0, 0)) := by rw [← hw1]; exact heap_alloc_new _ _
  have z1 : w.heap.size < w1.heap.size := (Array.getElem?_eq_some_iff.1 b1).1
  obtain ⟨x0, x1, x2, _, _, _⟩ := three_cells b1
  have hm1 := hm.next k1
  have hl1 := hl.next k1
  clear hw1 hm hl b1
  go_wp2_with fail
  go_loopw [4, 13] (fun body i wr => ∃ (j : Nat) (A2 : Option Addr) (L2 c2 : Nat), j ≤ l ∧ i = .int .i64 j ∧ body = .slice A2 L2 c2 ∧ L2 ≤ 4 * j ∧ Ow wr w1.heap.size A2 L2 c2 (layN ((szs k).take j) (ns.take j)) ∧ Below w1.heap.size w1 wr) (fun _ i _ => l - (intOf i).toNat)
  case atStart => exact ⟨0, none, 0, 0, Nat.zero_le _, rfl, rfl, Nat.zero_le _, Ow.nil _ _, Below.refl _ _⟩
  case round =>
    obtain ⟨j, A2, L2, c2, hj, rfl, rfl, hL2, ho, kr⟩ := hrel
    by_cases hlt : j < l
    · have hjn : j < ns.length := by rw [hln.out]; exact hlt
      obtain ⟨hs, hs1, hs4, hj3⟩ := szs_at k hk j (by rw [← HLN.out]; exact hlt)
      have hmr := hm1.next kr
      obtain ⟨ad, rfl, hb, hc⟩ := hmr.num.at_ (uvs_at hjn)
      have y0 := (kr.cell z1).trans x0
      have y1 := (kr.cell z1).trans x1
      have y2 := (kr.cell z1).trans x2
      have hsh := ((hl1.next kr).row k hk).at_ hj3
      have hns : ns[j]? = some ns[j] := List.getElem?_eq_getElem hjn
      have hfit := HF.out j _ _ hs hns
      have HY := Lib.hid (layN_next hs hns)
      generalize ns[j] = n at *
      have hput := put_ok A2 _ L2 c2 (sz k j) n wr ho.sl (by omega) hs1 (by omega) (Lib.hid (decide_eq_true hfit)) _ rfl
      have HP := Lib.hid hput
      clear hput hfit hns hs x0 x1 x2 hmr hm1
      go_wp2_with (go_at_call 42; refine HP.out.mono ?_; rintro e w3 ⟨A3, c3, rfl, ho3, k3⟩)
      go_roundw
      case rel => exact ⟨j + 1, A3, _, c3, by omega, by go_num, rfl, by omega, by rw [HY.out]; exact ho3.base kr.size, kp_trans kr k3⟩
      case measure => simp [intOf]; omega
    · obtain rfl : j = l := by omega
      obtain ⟨wo, hwo⟩ : ∃ x, x = wr := ⟨wr, rfl⟩
      subst hwo
      have ko := kr
      clear kr
      have e1 : (szs k).take j = szs k := List.take_of_length_le (by rw [szs_nums, HLN.out]; exact Nat.le_refl _)
      have e2 : ns.take j = ns := List.take_of_length_le (by rw [hln.out]; exact Nat.le_refl _)
      rw [e1, e2] at ho
      clear e1 e2
      have y0 := (ko.cell z1).trans x0
      have y1 := (ko.cell z1).trans x1
      have y2 := (ko.cell z1).trans x2
      have hmr := hm1.next ko
      have zo : w.heap.size < wo.heap.size := Nat.lt_of_lt_of_le z1 ko.size
      clear x0 x1 x2 hm1
      go_wp2_with fail
      go_loopw [4, 38] (fun body i wr => ∃ (q : Nat) (A4 : Option Addr) (L4 c4 : Nat), q ≤ l' ∧ i = .int .i64 q ∧ body = .slice A4 L4 c4 ∧ L4 ≤ 12 + 202 * q ∧ Ow wr w1.heap.size A4 L4 c4 (layN (szs k) ns ++ layT (ts.take q)) ∧ Below wo.heap.size wo wr) (fun _ i _ => l' - (intOf i).toNat)
      case atStart => exact ⟨0, A2, L2, c2, Nat.zero_le _, rfl, rfl, by omega, by simpa [layT] using ho, Below.refl _ _⟩
      case round =>
        obtain ⟨q, A4, L4, c4, hq, rfl, rfl, hL4, ho4, k4⟩ := hrel
        by_cases hlq : q < l'
        · have hqn : q < ts.length := by rw [hlt'.out]; exact hlq
          have hm4 := hmr.next k4
          obtain ⟨ad, rfl, hb, hc⟩ := hm4.txt.at_ (svs_at hqn)
          have u0 := (k4.cell zo).trans y0
          have u1 := (k4.cell zo).trans y1
          have u2 := (k4.cell zo).trans y2
          have HY := Lib.hid (layT_next ts q hqn)
          have hsz := HT.out _ (List.getElem_mem hqn)
          generalize ts[q] = t at *
          have hput := putText_ok A4 _ L4 c4 t wr ho4.sl (by omega) (by omega) _ rfl
          have HP := Lib.hid hput
          have hz4 := Nat.le_trans ko.size k4.size
          clear hput y0 y1 y2 hm4 hmr
          go_wp2_with (go_at_call 43; refine HP.out.mono ?_; rintro e w5 ⟨A5, c5, rfl, ho5, k5⟩)
          go_roundw
          case rel => exact ⟨q + 1, A5, _, c5, by omega, by go_num, rfl, by omega, by rw [HY.out, txtB, ← List.append_assoc, ← List.append_assoc]; exact ho5.base hz4, kp_trans k4 k5⟩
          case measure => simp [intOf]; omega
        · obtain rfl : q = l' := by omega
          have e2 : ts.take q = ts := List.take_of_length_le (by rw [hlt'.out]; exact Nat.le_refl _)
          rw [e2] at ho4
          clear e2
          go_wp2_with fail
          go_ret2
          exact ⟨A4, L4, c4, rfl, ho4.base k1.size, by omega, kp_trans (kp_trans k1 ko) k4⟩

/-- a message's frame: Kind, Body, the error -/
def frameF (k : Int) (ns : List Nat) (ts : List ByteArray) : UInt8 × List UInt8 × Int :=
  if rightF k ns ts = false then (0, [], 1) else if 300 < (layF k.toNat ns ts).length then (0, [], 4) else (UInt8.ofNat k.toNat, layF k.toNat ns ts, 0)
/-- one answer of Frame, of the code and of the document -/
def AnsM (f : FuncId) (args : Array Value) (w : World) (r : UInt8 × List UInt8 × Int) : Prop :=
  Calls Tryd.prog f args w fun e w' => ∃ A' l' c', e = .returned (.tuple #[frV r.1 A' l' c', .int .i64 r.2.2]) ∧ Ow w' w.heap.size A' l' c' r.2.1 ∧ Below w.heap.size w w'

theorem alloc2 (w : World) (o o' : Obj) : ((w.alloc o).alloc o').heap[w.heap.size]? = some o ∧ ((w.alloc o).alloc o').heap[w.heap.size + 1]? = some o' := by
  constructor
  · rw [(kp_new (w.alloc o) o').block _ (by simp)]
    exact heap_alloc_new w o
  · have := heap_alloc_new (w.alloc o) o'
    simpa using this

theorem okT_parts {k : Nat} {ts : List ByteArray} (h : okT k ts = true) : (∀ t ∈ ts, t.size ≤ 200) ∧ fitT ts.length (tx k) = true := by
  unfold okT at h
  simp only [Bool.and_eq_true, List.all_eq_true, decide_eq_true_eq] at h
  exact ⟨h.2, h.1⟩
theorem tx_most : ∀ k, k < 15 → tx k = -1 ∨ tx k ≤ 20 := by decide
theorem fitT_most {c k : Nat} (hk : k < 15) (h : fitT c (tx k) = true) : c ≤ 20 := by
  unfold fitT at h
  split at h
  · exact of_decide_eq_true h
  · have := of_decide_eq_true h
    rcases tx_most k hk with h1 | h1 <;> omega

set_option maxHeartbeats 1000000 in
theorem frame_any (m : Mg) (w : World) (hm : MR w m) (hl : Lay w) (hL : m.l ≤ 1000000) (hL' : m.l' ≤ 1000000) : AnsM 8 #[m.v] w (frameF m.k m.ns m.ts) := by
  obtain ⟨mk, A, l, c, ns, A', l', c', ts⟩ := m
  simp only at hL hL' ⊢
  have hv : Mg.v ⟨mk, A, l, c, ns, A', l', c', ts⟩ = .agg #[.int .i64 mk, .slice A l c, .slice A' l' c'] := rfl
  rw [hv]
  unfold AnsM frameF
  have k1 : Below w.heap.size w ((w.alloc (.cells #[.int .i64 mk, .slice A l c, .slice A' l' c'] 25)).alloc (.cells #[.int .u8 0, .slice none 0 0] 28)) := kp_alloc (kp_new _ _) _
  obtain ⟨b0, b1⟩ := alloc2 w (.cells #[.int .i64 mk, .slice A l c, .slice A' l' c'] 25) (.cells #[.int .u8 0, .slice none 0 0] 28)
  have z1 : w.heap.size + 2 = ((w.alloc (.cells #[.int .i64 mk, .slice A l c, .slice A' l' c'] 25)).alloc (.cells #[.int .u8 0, .slice none 0 0] 28)).heap.size := by simp
  cases hr : rightF mk ns ts
  · rw [if_pos rfl]
    simp only
    have hR := fun w1 (k : Below w.heap.size w w1) => right_any ⟨mk, A, l, c, ns, A', l', c', ts⟩ w1 (hm.next k) (hl.next k) hL hL' false (Lib.hid hr)
    have HR := Lib.hid (hR _ k1)
    have HB := Lib.hid b1
    have HZ := Lib.hid z1
    clear hR b0 b1 z1
    go_enter Tryd.func8, Tryd.ntmps8
    go_wp2_with fail
    refine HR.out.mono ?_
    rintro e w2 ⟨rfl, k2⟩
    obtain ⟨c0, c1, f0, f1⟩ := two_cells ((k2.block (w.heap.size + 1) (by rw [← HZ.out]; omega)).trans HB.out)
    go_wp2_with fail
    refine bodyPost_ret (v := .tuple #[frV 0 none 0 0, .int .i64 1]) ?_ rfl ⟨none, 0, 0, rfl, Ow.nil _ _, ?_⟩
    · rw [results_cell_tmp rfl]
      unfold frV
      go_simp
    · exact ((kp_trans k1 k2).setCell (Nat.le_succ _) _).setCell (Nat.le_succ _) _
  · rw [if_neg (by decide)]
    have hrr := hr
    unfold rightF at hrr
    simp only [Bool.and_eq_true, decide_eq_true_eq] at hrr
    obtain ⟨⟨g1, g2⟩, hfn, hok⟩ := hrr
    obtain ⟨k, rfl⟩ := Int.eq_ofNat_of_zero_le (by omega : 0 ≤ mk)
    rw [Int.toNat_natCast] at hfn hok ⊢
    have hk15 : k < 15 := by omega
    obtain ⟨hts, hct⟩ := okT_parts hok
    have h20 := fitT_most hk15 hct
    have hR := fun w1 (k1 : Below w.heap.size w w1) => right_any ⟨k, A, l, c, ns, A', l', c', ts⟩ w1 (hm.next k1) (hl.next k1) hL hL' true (Lib.hid hr)
    have hO := fun w1 (k1 : Below w.heap.size w w1) => bodyOf_any ⟨k, A, l, c, ns, A', l', c', ts⟩ k w1 (hm.next k1) (hl.next k1) hk15 rfl hfn hts h20
    have HR := Lib.hid (hR _ k1)
    have HO := Lib.hid hO
    have HB0 := Lib.hid b0
    have HB := Lib.hid b1
    have HZ := Lib.hid z1
    have hkk : (((UInt8.ofNat k).toNat : Nat) : Int) = k := by simp only [UInt8.toNat_ofNat']; omega
    have hkw : (k : Int) % 256 = k := by omega
    have HK := Lib.hid hkk
    clear hR hO b0 b1 z1 hfn hok hts hct h20 hr hkk
    generalize hlay : layF k ns ts = body at *
    by_cases h300 : 300 < body.length
    · rw [if_pos h300]
      simp only
      go_enter Tryd.func8, Tryd.ntmps8
      go_wp2_with fail
      refine HR.out.mono ?_
      rintro e w2 ⟨rfl, k2⟩
      obtain ⟨y0, y1, y2, _, _, _⟩ := three_cells ((k2.block w.heap.size (by rw [← HZ.out]; omega)).trans HB0.out)
      go_wp2_with fail
      refine (HO.out w2 (kp_trans k1 k2)).mono ?_
      rintro e w3 ⟨A3, L3, c3, rfl, ho3, hl3, k3⟩
      have hl300 : (300 : Int) < (L3 : Int) := by have := ho3.len; omega
      obtain ⟨c0, c1, f0, f1⟩ := two_cells (((k2.trans (k3.mono k2.size)).block (w.heap.size + 1) (by rw [← HZ.out]; omega)).trans HB.out)
      clear y0 y1 y2
      go_wp2_with fail
      refine bodyPost_ret (v := .tuple #[frV 0 none 0 0, .int .i64 4]) ?_ rfl ⟨none, 0, 0, rfl, Ow.nil _ _, ?_⟩
      · rw [results_cell_tmp rfl]
        unfold frV
        go_simp
      · exact ((kp_trans (kp_trans k1 k2) k3).setCell (Nat.le_succ _) _).setCell (Nat.le_succ _) _
    · rw [if_neg h300]
      simp only
      go_enter Tryd.func8, Tryd.ntmps8
      go_wp2_with fail
      refine HR.out.mono ?_
      rintro e w2 ⟨rfl, k2⟩
      have b2 := (k2.block w.heap.size (by rw [← HZ.out]; omega)).trans HB0.out
      obtain ⟨y0, y1, y2, _, _, _⟩ := three_cells b2
      go_wp2_with fail
      refine (HO.out w2 (kp_trans k1 k2)).mono ?_
      rintro e w3 ⟨A3, L3, c3, rfl, ho3, hl3, k3⟩
      have hl300 : ¬ (300 : Int) < (L3 : Int) := by have := ho3.len; omega
      have hd300 : decide ((300 : Int) < (L3 : Int)) = false := decide_eq_false hl300
      obtain ⟨c0, c1, f0, f1⟩ := two_cells (((k2.trans (k3.mono k2.size)).block (w.heap.size + 1) (by rw [← HZ.out]; omega)).trans HB.out)
      obtain ⟨u0, u1, u2, _, _, _⟩ := three_cells ((k3.block _ (Array.getElem?_eq_some_iff.1 b2).1).trans b2)
      clear y0 y1 y2 b2
      go_wp2_with fail
      refine bodyPost_ret (v := .tuple #[frV (UInt8.ofNat k) A3 L3 c3, .int .i64 0]) ?_ rfl ⟨A3, L3, c3, rfl, ?_, ?_⟩
      · rw [results_cell_tmp rfl]
        unfold frV
        rw [HK.out]
        go_simp
      · have hlt : w.heap.size + 1 < w2.heap.size := by have := k2.size; rw [← HZ.out] at this; omega
        exact ((ho3.setCell hlt _).setCell hlt _).base (Nat.le_trans k1.size k2.size)
      · exact ((kp_trans (kp_trans k1 k2) k3).setCell (Nat.le_succ _) _).setCell (Nat.le_succ _) _

/-- a message's bytes, the error -/
def msgB (k : Int) (ns : List Nat) (ts : List ByteArray) : List UInt8 × Int :=
  if (frameF k ns ts).2.2 = 0 then bytesF (frameF k ns ts).1 (frameF k ns ts).2.1 else ([], (frameF k ns ts).2.2)

set_option maxHeartbeats 1000000 in
theorem mbytes_any (m : Mg) (w : World) (hm : MR w m) (hl : Lay w) (hL : m.l ≤ 1000000) (hL' : m.l' ≤ 1000000) : AnsY 10 #[m.v] w (msgB m.k m.ns m.ts) := by
  obtain ⟨mk, A, l, c, ns, A', l', c', ts⟩ := m
  simp only at hL hL' ⊢
  have hv : Mg.v ⟨mk, A, l, c, ns, A', l', c', ts⟩ = .agg #[.int .i64 mk, .slice A l c, .slice A' l' c'] := rfl
  rw [hv]
  unfold AnsY msgB
  have k1 : Below w.heap.size w (w.alloc (.cells #[.int .i64 mk, .slice A l c, .slice A' l' c'] 25)) := kp_new _ _
  have hF := frame_any ⟨mk, A, l, c, ns, A', l', c', ts⟩ _ (hm.next k1) (hl.next k1) hL hL'
  unfold AnsM at hF
  simp only at hF
  generalize frameF mk ns ts = r at *
  obtain ⟨rk, rb, re⟩ := r
  simp only at hF ⊢
  rw [hv] at hF
  unfold frV at hF
  have HF := Lib.hid hF
  clear hF
  by_cases he : re = 0
  · subst he
    rw [if_pos rfl]
    have hY := fun w2 A2 l2 c2 (h : Sl w2 w2.heap.size A2 l2 c2 rb) => bytes_any rk A2 rb l2 c2 w2 h
    unfold AnsY frV at hY
    generalize bytesF rk rb = y at *
    obtain ⟨yb, ye⟩ := y
    simp only at hY ⊢
    have HY := Lib.hid hY
    clear hY
    go_enter Tryd.func10, Tryd.ntmps10
    go_wp2_with fail
    refine HF.out.mono ?_
    rintro e w2 ⟨A2, l2, c2, rfl, ho2, k2⟩
    go_wp2_with fail
    refine (HY.out _ A2 l2 c2 (ho2.sl.next (kp_new _ _))).mono ?_
    rintro e w3 ⟨A3, l3, c3, rfl, ho3, k3⟩
    have kk := kp_trans (kp_trans k1 k2) (kp_trans (kp_new w2 (.cells #[.int .u8 (rk.toNat : Int), .slice A2 l2 c2] 28)) k3)
    go_wp2_with fail
    go_ret2
    exact ⟨A3, l3, c3, rfl, ho3.base (by have := k1.size; have := k2.size; simp; omega), kk⟩
  · rw [if_neg he]
    have hne : (re != 0) = true := by simpa using he
    go_enter Tryd.func10, Tryd.ntmps10
    go_wp2_with fail
    refine HF.out.mono ?_
    rintro e w2 ⟨A2, l2, c2, rfl, ho2, k2⟩
    have kk := kp_trans (kp_trans k1 k2) (kp_new w2 (.cells #[.int .u8 (rk.toNat : Int), .slice A2 l2 c2] 28))
    go_wp2_with fail
    go_ret2
    exact ⟨none, 0, 0, rfl, Ow.nil _ _, kk⟩
end Go.Proofs.YtmklmakcampbbaaDoor
