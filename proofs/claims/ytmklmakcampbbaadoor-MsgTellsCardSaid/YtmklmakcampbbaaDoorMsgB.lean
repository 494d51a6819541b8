/-
  Messages as they lie in memory; which may be (rightNumbers, rightTexts, Right of package msg): contracts.
-/
import Derived.Test.YtmklmakcampbbaaDoorMsgA
import Derived.Test.YtmklmakcampbbaaDoorRefA
import Derived.Test.YtmklmakcampbbaaDoorFrameA
namespace Go.Proofs.YtmklmakcampbbaaDoor
open Go.RowKit
set_option maxRecDepth 100000

/-- a slice of one-cell values that is read -/
structure Sg (w : World) (B : Nat) (A : Option Addr) (l c : Nat) (xs : List Value) : Prop where
  rd : Rd w B A xs
  len : xs.length = l
  cap : l ≤ c
theorem Sg.below {w w' : World} {B B' : Nat} {A : Option Addr} {l c : Nat} {xs : List Value} (h : Sg w B A l c xs) (hb : Below B' w w') (hB : B ≤ B') : Sg w' B A l c xs := ⟨h.rd.below hb hB, h.len, h.cap⟩
theorem Sg.more {w : World} {B B' : Nat} {A : Option Addr} {l c : Nat} {xs : List Value} (h : Sg w B A l c xs) (hB : B ≤ B') : Sg w B' A l c xs := ⟨h.rd.more hB, h.len, h.cap⟩
theorem Sg.next {w w' : World} {A : Option Addr} {l c : Nat} {xs : List Value} (h : Sg w w.heap.size A l c xs) (hb : Below w.heap.size w w') : Sg w' w'.heap.size A l c xs := (h.below hb (Nat.le_refl _)).more hb.size
theorem Sg.nil (w : World) (B : Nat) : Sg w B none 0 0 [] := ⟨.inl rfl, rfl, Nat.le_refl _⟩
theorem Sg.drew {w : World} {B : Nat} {A : Option Addr} {l c : Nat} {xs : List Value} (h : Sg w B A l c xs) : Sg w.drew B A l c xs := ⟨h.rd, h.len, h.cap⟩

def uvs (ns : List Nat) : List Value := ns.map fun n : Nat => Value.int .u64 (n : Int)
def svs (ts : List ByteArray) : List Value := ts.map .string
theorem uvs_length (ns : List Nat) : (uvs ns).length = ns.length := by simp [uvs]
theorem svs_length (ts : List ByteArray) : (svs ts).length = ts.length := by simp [svs]

/-- a message as a value, its rows read -/
structure Mg where
  k : Int
  A : Option Addr
  l : Nat
  c : Nat
  ns : List Nat
  A' : Option Addr
  l' : Nat
  c' : Nat
  ts : List ByteArray
def Mg.v (m : Mg) : Value := .agg #[.int .i64 m.k, .slice m.A m.l m.c, .slice m.A' m.l' m.c']
structure MR (w : World) (m : Mg) : Prop where
  num : Sg w w.heap.size m.A m.l m.c (uvs m.ns)
  txt : Sg w w.heap.size m.A' m.l' m.c' (svs m.ts)
  u64 : ∀ n ∈ m.ns, n < 18446744073709551616
theorem MR.next {w w' : World} {m : Mg} (h : MR w m) (hb : Below w.heap.size w w') : MR w' m := ⟨h.num.next hb, h.txt.next hb, h.u64⟩
theorem MR.ln {w : World} {m : Mg} (h : MR w m) : m.ns.length = m.l := by have := h.num.len; rwa [uvs_length] at this
theorem MR.lt {w : World} {m : Mg} (h : MR w m) : m.ts.length = m.l' := by have := h.txt.len; rwa [svs_length] at this

/-- a kind's sizes -/
def szs (k : Nat) : List Nat := (szTab.getD k []).filter (0 < ·)
theorem szs_nums (k : Nat) : (szs k).length = nums k := rfl
theorem szs_at : ∀ k, k < 15 → ∀ j, j < nums k → (szs k)[j]? = some (sz k j) ∧ 1 ≤ sz k j ∧ sz k j ≤ 4 ∧ j < 3 := by decide
/-- as many numbers as sizes, each of its size -/
def fitN : List Nat → List Nat → Bool
  | [], [] => true
  | s :: ss, n :: ns => decide (n < 256 ^ s) && fitN ss ns
  | _, _ => false
theorem fitN_len : ∀ {ss ns : List Nat}, fitN ss ns = true → ns.length = ss.length
  | [], [], _ => rfl
  | s :: ss, n :: ns, h => by
    simp only [fitN, Bool.and_eq_true] at h
    simp [fitN_len h.2]
  | [], _ :: _, h => by simp [fitN] at h
  | _ :: _, [], h => by simp [fitN] at h
theorem fitN_iff : ∀ {ss ns : List Nat}, ns.length = ss.length → (fitN ss ns = true ↔ ∀ (j s n : Nat), ss[j]? = some s → ns[j]? = some n → n < 256 ^ s)
  | [], [], _ => by simp [fitN]
  | s :: ss, n :: ns, h => by
    simp only [fitN, Bool.and_eq_true, decide_eq_true_eq, fitN_iff (ss := ss) (ns := ns) (by simpa using h)]
    constructor
    · rintro ⟨h1, h2⟩ j s' n' hs hn
      cases j with
      | zero => simp at hs hn; subst hs; subst hn; exact h1
      | succ j => exact h2 j s' n' (by simpa using hs) (by simpa using hn)
    · intro hh
      exact ⟨hh 0 s n rfl rfl, fun j s' n' hs hn => hh (j + 1) s' n' (by simpa using hs) (by simpa using hn)⟩
  | [], _ :: _, h => by simp at h
  | _ :: _, [], h => by simp at h

theorem three_cells {w : World} {b : Nat} {x y z : Value} {t : TypeId} (h : w.heap[b]? = some (.cells #[x, y, z] t (0, 0))) :
    w.cell? ⟨b, 0, none⟩ = some x ∧ w.cell? ⟨b, 1, none⟩ = some y ∧ w.cell? ⟨b, 2, none⟩ = some z ∧ w.frozen? ⟨b, 0, none⟩ = false ∧ w.frozen? ⟨b, 1, none⟩ = false ∧ w.frozen? ⟨b, 2, none⟩ = false := by
  refine ⟨?_, ?_, ?_, ?_, ?_, ?_⟩
  · rw [cell_of_row _ _ 0 #[x, y, z] t (0, 0) h]; rfl
  · rw [cell_of_row _ _ 1 #[x, y, z] t (0, 0) h]; rfl
  · rw [cell_of_row _ _ 2 #[x, y, z] t (0, 0) h]; rfl
  all_goals simp [World.frozen?, h]
theorem uvs_at {ns : List Nat} {j : Nat} (h : j < ns.length) : (uvs ns)[j]? = some (.int .u64 (ns[j] : Int)) := by simp [uvs, h]
theorem svs_at {ts : List ByteArray} {j : Nat} (h : j < ts.length) : (svs ts)[j]? = some (.string ts[j]) := by simp [svs, h]
theorem Sg.at_ {w : World} {B : Nat} {A : Option Addr} {l c : Nat} {xs : List Value} (h : Sg w B A l c xs) {j : Nat} {x : Value} (hj : xs[j]? = some x) : ∃ ad, A = some ad ∧ ad.block < B ∧ w.cell? (ad.add j) = some x := by
  obtain ⟨hlt, he⟩ := List.getElem?_eq_some_iff.1 hj
  obtain ⟨ad, h1, h2, h3⟩ := h.rd.at_ hlt
  exact ⟨ad, h1, h2, by rw [h3, he]⟩

set_option maxHeartbeats 400000 in
theorem rightNumbers_any (m : Mg) (k : Nat) (w : World) (hm : MR w m) (hl : Lay w) (hk : k < 15) (hmk : m.k = k) (hL : m.l ≤ 1000000) (b : Bool) (hb0 : Hid (fitN (szs k) m.ns = b)) :
    Calls Tryd.prog 34 #[m.v] w fun e w' => e = .returned (.bool b) ∧ Below w.heap.size w w' := by
  obtain ⟨mk, A, l, c, ns, A', l', c', ts⟩ := m
  simp only at hmk hL hb0
  subst hmk
  unfold Mg.v
  have hln := Lib.hid hm.ln
  go_enter Tryd.func34, Tryd.ntmps34
  go_wp2_with fail
  generalize hw1 : w.alloc (.cells #[.int .i64 (k : Int), .slice A l c, .slice A' l' c'] 25) = w1
  have k1 : Below w.heap.size w w1 := by rw [← hw1]; exact kp_new _ _
  have b1 : w1.heap[w.heap.size]? = some (.cells #[.int .i64 (k : Int), .slice A l c, .slice A' l' c'] 25 (0, 0)) := by rw [← hw1]; exact heap_alloc_new _ _
  have z1 : w.heap.size < w1.heap.size := (Array.getElem?_eq_some_iff.1 b1).1
  obtain ⟨x0, x1, x2, _, _, _⟩ := three_cells b1
  have hm1 := hm.next k1
  have hl1 := hl.next k1
  clear hw1 hm hl b1
  have hnn := szs_nums k
  by_cases hlen : l = nums k
  · have e1 : ((l : Int) != (nums k : Int)) = false := by rw [hlen]; simp
    have HI := Lib.hid (fitN_iff (ss := szs k) (ns := ns) (by rw [hnn, hln.out, hlen]))
    have HL := Lib.hid hlen
    clear hlen
    go_quiet (first | (go_at_call 47; refine quiet_same (numbersOf_any k _ hk ?_); exact hl1.next (kp_drewN _ _)))
    have k2 := kp_drewN w1 nq
    go_wp2_with fail
    go_loopw [17] (fun i wr => ∃ j : Nat, j ≤ l ∧ i = .int .i64 j ∧ Hid (∀ (q s n : Nat), q < j → (szs k)[q]? = some s → ns[q]? = some n → n < 256 ^ s) ∧ Below w1.heap.size w1 wr) (fun i _ => l - (intOf i).toNat)
    case atStart => exact ⟨0, Nat.zero_le _, rfl, Lib.hid (fun q _ _ h => by omega), k2⟩
    case round =>
      obtain ⟨j, hj, rfl, hfit, kr⟩ := hrel
      clear k2
      by_cases hlt : j < l
      · have hjn : j < ns.length := by rw [hln.out]; exact hlt
        have hjk : j < nums k := by rw [← HL.out]; exact hlt
        obtain ⟨hs, hs1, hs4, hj3⟩ := szs_at k hk j hjk
        have hmr := hm1.next kr
        obtain ⟨ad, rfl, hb, hc⟩ := hmr.num.at_ (uvs_at hjn)
        have y0 := (kr.cell z1).trans x0
        have y1 := (kr.cell z1).trans x1
        have hsh := ((hl1.next kr).row k hk).at_ hj3
        generalize hn : ns[j] = n at *
        clear x0 x1 x2 hmr hm1 HL hnn
        by_cases hf : n < 256 ^ sz k j
        · have hput := put_ok none [] 0 0 (sz k j) n wr (Sl.nil _ _) (by omega) hs1 (by omega) (Lib.hid (decide_eq_true hf)) _ rfl
          have HP := Lib.hid hput
          have HF : Hid (∀ (q s n : Nat), q < j + 1 → (szs k)[q]? = some s → ns[q]? = some n → n < 256 ^ s) := Lib.hid fun q s n' hq h1 h2 => by
            rcases Nat.lt_or_ge q j with h | h
            · exact hfit.out q s n' h h1 h2
            · obtain rfl : q = j := by omega
              rw [hs] at h1
              rw [List.getElem?_eq_getElem hjn, hn] at h2
              injection h1 with h1; injection h2 with h2
              subst h1 h2
              exact hf
          clear hput hf hn
          go_wp2_with (go_at_call 42; refine HP.out.mono ?_; rintro e w3 ⟨A3, c3, rfl, ho3, k3⟩)
          go_roundw
          case rel => exact ⟨j + 1, by omega, by go_num, HF, kp_trans kr k3⟩
          case measure => simp [intOf]; omega
        · have hput := put_no none 0 0 (sz k j) n wr (.inr ⟨⟨by omega, by omega⟩, by simpa using hf⟩)
          have HP := Lib.hid hput
          have hbf : b = false := by
            rw [← hb0.out, ← Bool.not_eq_true]
            intro hh
            exact hf (HI.out.1 hh j _ n hs (by rw [List.getElem?_eq_getElem hjn, hn]))
          subst hbf
          clear hput hf hn
          go_wp2_with (go_at_call 42; refine HP.out.mono ?_; rintro e w3 ⟨rfl, rfl⟩)
          go_ret
          exact ⟨rfl, k1.trans (kr.mono k1.size)⟩
      · have hbt : b = true := by
          rw [← hb0.out, HI.out]
          intro q s n h1 h2
          exact hfit.out q s n (by have := (List.getElem?_eq_some_iff.1 h2).1; rw [hln.out] at this; omega) h1 h2
        subst hbt
        go_wp2
        go_ret
        exact ⟨rfl, k1.trans (kr.mono k1.size)⟩
  · have e1 : ((l : Int) != (nums k : Int)) = true := by rw [bne_iff_ne]; omega
    have hbf : b = false := by
      rw [← hb0.out, ← Bool.not_eq_true]
      intro hh
      have := fitN_len hh
      rw [hln.out, hnn] at this
      omega
    subst hbf
    go_quiet (first | (go_at_call 47; refine quiet_same (numbersOf_any k _ hk ?_); exact hl1.next (kp_drewN _ _)))
    have k2 := kp_drewN w1 nq
    go_wp2_with fail
    go_ret
    exact ⟨rfl, kp_trans k1 k2⟩

/-- texts that may be -/
def okT (k : Nat) (ts : List ByteArray) : Bool := fitT ts.length (tx k) && ts.all fun t => decide (t.size ≤ 200)

set_option maxHeartbeats 400000 in
theorem rightTexts_any (m : Mg) (k : Nat) (w : World) (hm : MR w m) (hl : Lay w) (hk : k < 15) (hmk : m.k = k) (hL : m.l' ≤ 1000000) (b : Bool) (hb0 : Hid (okT k m.ts = b)) :
    Calls Tryd.prog 35 #[m.v] w fun e w' => e = .returned (.bool b) ∧ Below w.heap.size w w' := by
  obtain ⟨mk, A, l, c, ns, A', l', c', ts⟩ := m
  simp only at hmk hL hb0
  subst hmk
  unfold Mg.v
  have hlt' := Lib.hid hm.lt
  go_enter Tryd.func35, Tryd.ntmps35
  go_wp2_with fail
  generalize hw1 : w.alloc (.cells #[.int .i64 (k : Int), .slice A l c, .slice A' l' c'] 25) = w1
  have k1 : Below w.heap.size w w1 := by rw [← hw1]; exact kp_new _ _
  have b1 : w1.heap[w.heap.size]? = some (.cells #[.int .i64 (k : Int), .slice A l c, .slice A' l' c'] 25 (0, 0)) := by rw [← hw1]; exact heap_alloc_new _ _
  have z1 : w.heap.size < w1.heap.size := (Array.getElem?_eq_some_iff.1 b1).1
  obtain ⟨x0, x1, x2, _, _, _⟩ := three_cells b1
  have hm1 := hm.next k1
  have hl1 := hl.next k1
  have hsh := (hl1.row k hk).t
  clear hw1 hm hl b1
  cases hfit : fitT l' (tx k)
  · have hbf : b = false := by rw [← hb0.out, okT, hlt'.out, hfit]; rfl
    subst hbf
    go_quiet (first | (go_at_call 49; refine quiet_same (v := .bool false) ?_; rw [← hfit]; exact rightCount_any l' (tx k) _))
    have k2 := kp_drewN w1 nq
    go_wp2_with fail
    go_ret
    exact ⟨rfl, kp_trans k1 k2⟩
  · have HB : Hid ((ts.all fun t => decide (t.size ≤ 200)) = b) := Lib.hid (by rw [← hb0.out, okT, hlt'.out, hfit, Bool.true_and])
    go_quiet (first | (go_at_call 49; refine quiet_same (v := .bool true) ?_; rw [← hfit]; exact rightCount_any l' (tx k) _))
    have k2 := kp_drewN w1 nq
    clear hfit hsh
    go_wp2_with fail
    go_loopw [18] (fun i wr => ∃ j : Nat, j ≤ l' ∧ i = .int .i64 j ∧ Hid ((ts.take j).all (fun t => decide (t.size ≤ 200)) = true) ∧ Below w1.heap.size w1 wr) (fun i _ => l' - (intOf i).toNat)
    case atStart => exact ⟨0, Nat.zero_le _, rfl, Lib.hid (by simp), k2⟩
    case round =>
      obtain ⟨j, hj, rfl, hall, kr⟩ := hrel
      clear k2
      by_cases hlt : j < l'
      · have hjn : j < ts.length := by rw [hlt'.out]; exact hlt
        have hmr := hm1.next kr
        obtain ⟨ad, rfl, hb, hc⟩ := hmr.txt.at_ (svs_at hjn)
        have y2 := (kr.cell z1).trans x2
        have HT : Hid (ts.take (j + 1) = ts.take j ++ [ts[j]]) := Lib.hid (List.take_succ_eq_append_getElem hjn)
        have HM : Hid (ts[j] ∈ ts) := Lib.hid (List.getElem_mem hjn)
        generalize ht : ts[j] = t at *
        clear x0 x1 x2 hmr hm1 ht
        by_cases hs : t.size ≤ 200
        · have hd : decide ((200 : Int) < (t.size : Int)) = false := by simp; omega
          have HA : Hid ((ts.take (j + 1)).all (fun t => decide (t.size ≤ 200)) = true) := Lib.hid (by rw [HT.out, List.all_append, hall.out]; simpa using hs)
          go_wp2_with fail
          go_roundw
          case rel => exact ⟨j + 1, by omega, by go_num, HA, kr⟩
          case measure => simp [intOf]; omega
        · have hd : decide ((200 : Int) < (t.size : Int)) = true := by simp; omega
          have hbf : b = false := by
            rw [← HB.out, ← Bool.not_eq_true]
            intro hh
            exact hs (by simpa using List.all_eq_true.1 hh t HM.out)
          subst hbf
          go_wp2_with fail
          go_ret
          exact ⟨rfl, k1.trans (kr.mono k1.size)⟩
      · have hbt : b = true := by
          rw [← HB.out]
          have := hall.out
          rwa [List.take_of_length_le (by rw [hlt'.out]; omega)] at this
        subst hbt
        go_wp2
        go_ret
        exact ⟨rfl, k1.trans (kr.mono k1.size)⟩

/-- a message that may be -/
def rightF (k : Int) (ns : List Nat) (ts : List ByteArray) : Bool := decide (1 ≤ k ∧ k ≤ 14) && (fitN (szs k.toNat) ns && okT k.toNat ts)

set_option maxHeartbeats 400000 in
theorem right_any (m : Mg) (w : World) (hm : MR w m) (hl : Lay w) (hL : m.l ≤ 1000000) (hL' : m.l' ≤ 1000000) (b : Bool) (hb0 : Hid (rightF m.k m.ns m.ts = b)) :
    Calls Tryd.prog 14 #[m.v] w fun e w' => e = .returned (.bool b) ∧ Below w.heap.size w w' := by
  have h0 := hb0.out
  clear hb0
  subst h0
  obtain ⟨mk, A, l, c, ns, A', l', c', ts⟩ := m
  simp only at hL hL'
  have hv : Mg.v ⟨mk, A, l, c, ns, A', l', c', ts⟩ = .agg #[.int .i64 mk, .slice A l c, .slice A' l' c'] := rfl
  rw [hv]
  unfold rightF
  cases hk : decide (1 ≤ mk ∧ mk ≤ 14)
  · rw [Bool.false_and]
    go_enter Tryd.func14, Tryd.ntmps14
    go_wp2_with fail
    refine (isKind_any mk _ false (Lib.hid hk)).mono ?_
    rintro e w' ⟨rfl, rfl⟩
    go_wp2_with fail
    go_ret
    exact ⟨rfl, kp_new _ _⟩
  · rw [Bool.true_and]
    obtain ⟨k, rfl⟩ := Int.eq_ofNat_of_zero_le (by have := of_decide_eq_true hk; omega : 0 ≤ mk)
    rw [Int.toNat_natCast]
    have hk15 : k < 15 := by have := of_decide_eq_true hk; omega
    have k1 := kp_new w (.cells #[.int .i64 (k : Int), .slice A l c, .slice A' l' c'] 25)
    have hm1 := hm.next k1
    have hl1 := hl.next k1
    cases hn : fitN (szs k) ns
    · rw [Bool.false_and]
      go_enter Tryd.func14, Tryd.ntmps14
      go_wp2_with fail
      refine (isKind_any k _ true (Lib.hid hk)).mono ?_
      rintro e w' ⟨rfl, rfl⟩
      go_wp2_with fail
      refine (rightNumbers_any ⟨k, A, l, c, ns, A', l', c', ts⟩ k _ hm1 hl1 hk15 rfl hL false (Lib.hid hn)).mono ?_
      rintro e w2 ⟨rfl, k2⟩
      go_wp2_with fail
      go_ret
      exact ⟨rfl, kp_trans k1 k2⟩
    · rw [Bool.true_and]
      generalize ht : okT k ts = b
      have hx : ∀ w2, Below (w.alloc (.cells #[.int .i64 (k : Int), .slice A l c, .slice A' l' c'] 25)).heap.size (w.alloc (.cells #[.int .i64 (k : Int), .slice A l c, .slice A' l' c'] 25)) w2 → w2.heap[w.heap.size]? = some (.cells #[.int .i64 (k : Int), .slice A l c, .slice A' l' c'] 25 (0, 0)) := fun w2 h => (h.block _ (by simp)).trans (heap_alloc_new _ _)
      have HX := Lib.hid hx
      clear hx
      go_enter Tryd.func14, Tryd.ntmps14
      go_wp2_with fail
      refine (isKind_any k _ true (Lib.hid hk)).mono ?_
      rintro e w' ⟨rfl, rfl⟩
      go_wp2_with fail
      refine (rightNumbers_any ⟨k, A, l, c, ns, A', l', c', ts⟩ k _ hm1 hl1 hk15 rfl hL true (Lib.hid hn)).mono ?_
      rintro e w2 ⟨rfl, k2⟩
      obtain ⟨x0, x1, x2, _, _, _⟩ := three_cells (HX.out _ k2)
      go_wp2_with fail
      refine (rightTexts_any ⟨k, A, l, c, ns, A', l', c', ts⟩ k _ (hm1.next k2) (hl1.next k2) hk15 rfl hL' b (Lib.hid ht)).mono ?_
      rintro e w3 ⟨rfl, k3⟩
      go_wp2_with fail
      go_ret
      exact ⟨rfl, kp_trans (kp_trans k1 k2) k3⟩
end Go.Proofs.YtmklmakcampbbaaDoor
