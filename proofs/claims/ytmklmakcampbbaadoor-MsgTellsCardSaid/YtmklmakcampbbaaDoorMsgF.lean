/-
  A Body taken apart (takeApart of package msg), and the message of a frame (Of): contracts.
-/
import Derived.Test.YtmklmakcampbbaaDoorMsgE
namespace Go.Proofs.YtmklmakcampbbaaDoor
open Go.RowKit
set_option maxRecDepth 100000

/-- numbers of these sizes taken off bytes -/
def takeN : List Nat → List UInt8 → Option (List Nat × List UInt8)
  | [], bs => some ([], bs)
  | s :: ss, bs => if bs.length < s then none else (takeN ss (bs.drop s)).map fun r => (val (bs.take s) :: r.1, r.2)
theorem takeN_lt : ∀ {ss : List Nat} {bs : List UInt8} {r : List Nat × List UInt8}, takeN ss bs = some r → (∀ s ∈ ss, s ≤ 8) → (∀ n ∈ r.1, n < 18446744073709551616) ∧ r.1.length = ss.length
  | [], bs, r, h, _ => by
    simp only [takeN, Option.some.injEq] at h
    subst h
    simp
  | s :: ss, bs, r, h, h8 => by
    simp only [takeN] at h
    split at h
    · cases h
    · obtain ⟨q, hq, rfl⟩ := Option.map_eq_some_iff.1 h
      obtain ⟨h1, h2⟩ := takeN_lt hq (fun x hx => h8 x (List.mem_cons_of_mem _ hx))
      refine ⟨fun n hn => ?_, by simp [h2]⟩
      rcases List.mem_cons.1 hn with rfl | hn
      · have hs := h8 s (by simp)
        have := val_lt s (bs.take s) (by rw [List.length_take]; omega)
        have h256 : 256 ^ s ≤ 256 ^ 8 := Nat.pow_le_pow_right (by omega) hs
        omega
      · exact h1 n hn
theorem takeN_step {ss : List Nat} {j s : Nat} (hs : ss[j]? = some s) (bs : List UInt8) : takeN (ss.drop j) bs = if bs.length < s then none else (takeN (ss.drop (j + 1)) (bs.drop s)).map fun r => (val (bs.take s) :: r.1, r.2) := by
  obtain ⟨h1, h2⟩ := List.getElem?_eq_some_iff.1 hs
  rw [List.drop_eq_getElem_cons h1, h2, takeN]
/-- a Body taken apart -/
def apartF (k : Nat) (bs : List UInt8) : Option (List Nat × List ByteArray) := (takeN (szs k) bs).bind fun r => (textsF r.2).map fun ts => (r.1, ts)

/-- a message of the call's own -/
structure MO (w : World) (base : Nat) (m : Mg) : Prop where
  num : Og 63 w base m.A m.l m.c (uvs m.ns)
  txt : Og 9 w base m.A' m.l' m.c' (svs m.ts)
  u64 : ∀ n ∈ m.ns, n < 18446744073709551616
theorem MO.mr {w : World} {base : Nat} {m : Mg} (h : MO w base m) : MR w m := ⟨h.num.sg, h.txt.sg, h.u64⟩
theorem MO.next {w w' : World} {base : Nat} {m : Mg} (h : MO w base m) (hb : Below w.heap.size w w') : MO w' base m := ⟨h.num.next hb, h.txt.next hb, h.u64⟩
theorem MO.base {w : World} {base base' : Nat} {m : Mg} (h : MO w base m) (hb : base' ≤ base) : MO w base' m := ⟨h.num.base hb, h.txt.base hb, h.u64⟩
theorem MO.setCell {w : World} {base : Nat} {m : Mg} (h : MO w base m) {a : Addr} (ha : a.block < base) (u : Value) : MO (w.setCell a u) base m := ⟨h.num.setCell ha u, h.txt.setCell ha u, h.u64⟩
def Mg.zero : Mg := ⟨0, none, 0, 0, [], none, 0, 0, []⟩
theorem MO.zero (w : World) (base : Nat) : MO w base Mg.zero := ⟨Og.nil _ _ _, Og.nil _ _ _, fun n h => by simp [Mg.zero] at h⟩
/-- what is said of a message that there may be -/
def saysO (k : Int) (r : Option (List Nat × List ByteArray)) : Int × List Nat × List ByteArray :=
  match r with
  | none => (0, [], [])
  | some x => (k, x.1, x.2)

def ApartTo (args : Array Value) (w : World) (k : Nat) (r : Option (List Nat × List ByteArray)) : Prop :=
  Calls Tryd.prog 31 args w fun e w' => ∃ m : Mg, e = .returned (.tuple #[m.v, .bool r.isSome]) ∧ (m.k, m.ns, m.ts) = saysO k r ∧ MO w' w.heap.size m ∧ Below w.heap.size w w'

theorem alloc3 (w : World) (o o' o'' : Obj) : (((w.alloc o).alloc o').alloc o'').heap[w.heap.size]? = some o ∧ (((w.alloc o).alloc o').alloc o'').heap[w.heap.size + 1]? = some o' ∧ (((w.alloc o).alloc o').alloc o'').heap[w.heap.size + 2]? = some o'' := by
  obtain ⟨h1, h2⟩ := alloc2 w o o'
  refine ⟨?_, ?_, ?_⟩
  · rw [(kp_new ((w.alloc o).alloc o') o'').block _ (by simp; omega)]
    exact h1
  · rw [(kp_new ((w.alloc o).alloc o') o'').block _ (by simp)]
    exact h2
  · have := heap_alloc_new ((w.alloc o).alloc o') o''
    simpa using this

set_option maxHeartbeats 1000000 in
theorem takeApart_any (k : Nat) (A : Option Addr) (bs : List UInt8) (l c : Nat) (w : World) (hr : Sl w w.heap.size A l c bs) (hl : l ≤ 100000) (hL : Lay w) (hk : k < 15) : ApartTo #[.int .i64 k, .slice A l c] w k (apartF k bs) := by
  unfold ApartTo
  have hmf : ∀ (fn : Fn) (first cap : Array Value) (w : World), (Instr.makeFunc fn first cap).run Tryd.prog w = .ok (.func fn first cap) w := fun _ _ _ _ => rfl
  obtain ⟨b0, b1, b2⟩ := alloc3 w (.cells #[.int .i64 0, .slice none 0 0, .slice none 0 0] 25) (.cells #[.int .i64 (k : Int), .slice none 0 0, .slice none 0 0] 25) (.cells #[.slice A l c] 26)
  have k1 : Below w.heap.size w (((w.alloc (.cells #[.int .i64 0, .slice none 0 0, .slice none 0 0] 25)).alloc (.cells #[.int .i64 (k : Int), .slice none 0 0, .slice none 0 0] 25)).alloc (.cells #[.slice A l c] 26)) := kp_alloc (kp_alloc (kp_new _ _) _) _
  have z1 : w.heap.size + 3 = (((w.alloc (.cells #[.int .i64 0, .slice none 0 0, .slice none 0 0] 25)).alloc (.cells #[.int .i64 (k : Int), .slice none 0 0, .slice none 0 0] 25)).alloc (.cells #[.slice A l c] 26)).heap.size := by simp
  have hr1 := hr.next k1
  have hL1 := hL.next k1
  have hb0 := hL.pos
  generalize hR0 : apartF k bs = R
  have hR : Hid ((takeN ((szs k).drop 0) bs).bind (fun r => (textsF r.2).map fun ts => (r.1, ts)) = R) := Lib.hid (by rw [List.drop_zero, ← hR0]; rfl)
  have HU : Hid (∀ x, R = some x → ∀ n ∈ x.1, n < 18446744073709551616) := Lib.hid fun x hx => by
    rw [← hR0, apartF] at hx
    obtain ⟨q, hq, h2⟩ := Option.bind_eq_some_iff.1 hx
    obtain ⟨ts, _, rfl⟩ := Option.map_eq_some_iff.1 h2
    exact (takeN_lt hq (fun s hs => by
      obtain ⟨j, hj, rfl⟩ := List.getElem_of_mem hs
      obtain ⟨h1, h2, h3, _⟩ := szs_at k hk j (by rw [← szs_nums]; exact hj)
      rw [List.getElem?_eq_getElem hj] at h1
      injection h1 with h1
      omega)).1
  clear hR0
  have hN := numbersOf_any k _ hk hL1
  have HN := Lib.hid hN
  clear hN
  go_enter Tryd.func31, Tryd.ntmps31
  go_wp2_with fail
  refine HN.out.mono ?_
  rintro e w' ⟨rfl, hw'⟩
  clear HN
  generalize hw1 : (((w.alloc (.cells #[.int .i64 0, .slice none 0 0, .slice none 0 0] 25)).alloc (.cells #[.int .i64 (k : Int), .slice none 0 0, .slice none 0 0] 25)).alloc (.cells #[.slice A l c] 26)) = w1 at *
  subst hw'
  clear hw1
  generalize hb : w.heap.size = b at *
  have HB := Lib.hid hb
  clear hb
  go_wp2_with fail
  go_loopw [18] (fun i wr => ∃ (j : Nat) (A1 : Option Addr) (l1 c1 : Nat) (rest : List UInt8) (A2 : Option Addr) (c2 : Nat) (done : List Nat), i = .int .i64 j ∧ j ≤ nums k ∧
    wr.heap[b + 1]? = some (.cells #[.int .i64 (k : Int), .slice A2 j c2, .slice none 0 0] 25 (0, 0)) ∧ wr.heap[b + 1 + 1]? = some (.cells #[.slice A1 l1 c1] 26 (0, 0)) ∧ l1 ≤ l ∧
    Sl wr wr.heap.size A1 l1 c1 rest ∧ Og 63 wr (b + 3) A2 j c2 (uvs done) ∧ Hid (((takeN ((szs k).drop j) rest).map fun r => (done ++ r.1, r.2)).bind (fun r => (textsF r.2).map fun ts => (r.1, ts)) = R) ∧ Below (b + 1) w1 wr) (fun i _ => nums k - (intOf i).toNat)
  case atStart => exact ⟨0, A, l, c, bs, none, 0, [], rfl, Nat.zero_le _, b1, b2, Nat.le_refl _, hr1, Og.nil _ _ _, Lib.hid (by rw [← hR.out]; congr 1; cases takeN ((szs k).drop 0) bs <;> simp), Below.refl _ _⟩
  case round =>
    obtain ⟨j, A1, l1, c1, rest, A2, c2, done, rfl, hj, hM, hRR, hl1, hsl, ho, hx, kr⟩ := hrel
    have hzr := kr.size
    have hLr := hL1.below kr (by omega)
    have B0 := (kr.block b (by omega)).trans b0
    have hn3 : nums k ≤ 3 := by rw [← szs_nums]; exact szs_len k hk
    clear hR b1 b2 hr1
    by_cases hlt : j < nums k
    · obtain ⟨hs, hs1, hs4, hj3⟩ := szs_at k hk j hlt
      have hsh := (hLr.row k hk).at_ hj3
      rw [takeN_step hs] at hx
      have hlen := hsl.len
      by_cases hsz : l1 < sz k j
      · rw [if_pos (by omega)] at hx
        have hRn : none = R := by rw [← hx.out]; rfl
        subst hRn
        have hC := closure_short wr (b + 1) (b + 1 + 1) A1 l1 c1 (sz k j) hRR hs1 (by omega) hsz
        have HC := Lib.hid hC
        have HB0 := Lib.hid B0
        clear hC hx hs hM hRR B0
        go_wp2_with fail
        refine HC.out.mono ?_
        rintro e w' ⟨rfl, rfl⟩
        obtain ⟨x0, x1, x2, f0, f1, f2⟩ := three_cells HB0.out
        go_wp2_with fail
        refine bodyPost_ret (v := .tuple #[Mg.zero.v, .bool false]) ?_ rfl ⟨Mg.zero, rfl, rfl, MO.zero _ _, ?_⟩
        · rw [results_cell_tmp rfl]
          unfold Mg.v Mg.zero
          go_simp
        · rw [HB.out]
          exact (((k1.trans (kr.mono (Nat.le_succ _))).setCell (Nat.le_refl _) _).setCell (Nat.le_refl _) _).setCell (Nat.le_refl _) _
      · rw [if_neg (by omega)] at hx
        have hC := closure_ok wr (b + 1) (b + 1 + 1) (b + 3) A1 l1 c1 (sz k j) rest (.int .i64 (k : Int)) (.slice none 0 0) A2 j c2 done hM hRR (by omega) (by omega) (by omega) (by omega) hsl ho hs1 (by omega) (by omega) (by omega) (by omega) (b + 1) (Nat.le_refl _) (by omega)
        have HX : Hid (((takeN ((szs k).drop (j + 1)) (rest.drop (sz k j))).map fun r => (done ++ [val (rest.take (sz k j))] ++ r.1, r.2)).bind (fun r => (textsF r.2).map fun ts => (r.1, ts)) = R) := Lib.hid (by
          rw [← hx.out]
          cases takeN ((szs k).drop (j + 1)) (rest.drop (sz k j)) <;> simp)
        have HC := Lib.hid hC
        clear hC hx hs hM hRR B0
        generalize val (rest.take (sz k j)) = v at *
        generalize rest.drop (sz k j) = rest2 at *
        go_wp2_with fail
        refine HC.out.mono ?_
        rintro e w5 ⟨rfl, A3, A4, c4, hM5, hR5, hsl5, ho5, k5⟩
        have HM5 := Lib.hid hM5
        have HR5 := Lib.hid hR5
        clear hM5 hR5
        go_wp2_with fail
        go_roundw
        case rel => exact ⟨j + 1, A3, l1 - sz k j, _, rest2, A4, c4, done ++ [v], by go_num, by omega, HM5.out, HR5.out, by omega, hsl5, ho5, HX, kr.trans k5⟩
        case measure => simp [intOf]; omega
    · obtain rfl : j = nums k := by omega
      have hdr : (szs k).drop (nums k) = [] := List.drop_eq_nil_of_le (by rw [szs_nums]; exact Nat.le_refl _)
      rw [hdr, takeN] at hx
      have hT := takeTexts_any A1 rest l1 c1 wr hsl (by omega)
      unfold TextsTo at hT
      have hx2 : Hid ((textsF rest).map (fun ts => (done, ts)) = R) := Lib.hid (by rw [← hx.out]; simp)
      clear hx hdr
      obtain ⟨c0, _⟩ := one_cell hRR
      have hM2 := hM
      have hbm : b + 1 < wr.heap.size := by omega
      have kb : Below b w wr := k1.trans (kr.mono (Nat.le_succ _))
      cases htx : textsF rest
      · rw [htx] at hT hx2
        have hRn : none = R := by rw [← hx2.out]; rfl
        subst hRn
        have HT := Lib.hid hT
        have HB0 := Lib.hid B0
        clear hT hx2 hM hRR B0 hM2
        go_wp2_with fail
        refine HT.out.mono ?_
        rintro e w5 ⟨A5, n5, c5, rfl, ho5, k5⟩
        obtain ⟨x0, x1, x2, f0, f1, f2⟩ := three_cells ((k5.block b (by omega)).trans HB0.out)
        go_wp2_with fail
        refine bodyPost_ret (v := .tuple #[Mg.zero.v, .bool false]) ?_ rfl ⟨Mg.zero, rfl, rfl, MO.zero _ _, ?_⟩
        · rw [results_cell_tmp rfl]
          unfold Mg.v Mg.zero
          go_simp
        · rw [HB.out]
          exact (((kb.trans (k5.mono (by omega))).setCell (Nat.le_refl _) _).setCell (Nat.le_refl _) _).setCell (Nat.le_refl _) _
      · rename_i ts
        rw [htx] at hT hx2
        have hRn : some (done, ts) = R := by rw [← hx2.out]; rfl
        subst hRn
        have HT := Lib.hid hT
        have HB0 := Lib.hid B0
        have HM := Lib.hid hM
        clear hT hx2 hM hRR B0 hM2
        go_wp2_with fail
        refine HT.out.mono ?_
        rintro e w5 ⟨A5, n5, c5, rfl, ho5, k5⟩
        obtain ⟨x0, x1, x2, f0, f1, f2⟩ := three_cells ((k5.block b (by omega)).trans HB0.out)
        obtain ⟨y0, y1, y2, g0, g1, g2⟩ := three_cells ((k5.block (b + 1) hbm).trans HM.out)
        go_wp2_with fail
        refine bodyPost_ret (v := .tuple #[.agg #[.int .i64 (k : Int), .slice A2 (nums k) c2, .slice A5 n5 c5], .bool true]) ?_ rfl ⟨⟨k, A2, nums k, c2, done, A5, n5, c5, ts⟩, rfl, rfl, ⟨?_, ?_, HU.out _ rfl⟩, ?_⟩
        · rw [results_cell_tmp rfl]
          go_simp
        · rw [HB.out]
          exact (((((ho.next k5).setCell (a := ⟨b + 1, 2, none⟩) (by simp only; omega) _).setCell (a := ⟨b, 0, none⟩) (by simp only; omega) _).setCell (a := ⟨b, 1, none⟩) (by simp only; omega) _).setCell (a := ⟨b, 2, none⟩) (by simp only; omega) _).base (by omega)
        · rw [HB.out]
          exact ((((ho5.setCell (a := ⟨b + 1, 2, none⟩) (by simp only; omega) _).setCell (a := ⟨b, 0, none⟩) (by simp only; omega) _).setCell (a := ⟨b, 1, none⟩) (by simp only; omega) _).setCell (a := ⟨b, 2, none⟩) (by simp only; omega) _).base (by omega)
        · rw [HB.out]
          exact ((((kb.trans (k5.mono (by omega))).setCell (Nat.le_succ _) _).setCell (Nat.le_refl _) _).setCell (Nat.le_refl _) _).setCell (Nat.le_refl _) _

/-- the message of a frame -/
def ofF (k : UInt8) (bs : List UInt8) : Option (List Nat × List ByteArray) :=
  if (1 ≤ k.toNat ∧ k.toNat ≤ 14) ∧ bs.length ≤ 300 then (apartF k.toNat bs).filter fun x => rightF k.toNat x.1 x.2 else none
/-- one answer of Of, of the code and of the document -/
def AnsO (f : FuncId) (args : Array Value) (w : World) (k : UInt8) (r : Option (List Nat × List ByteArray)) : Prop :=
  Calls Tryd.prog f args w fun e w' => ∃ m : Mg, e = .returned (.tuple #[m.v, .int .i64 (if r.isSome then 0 else 2)]) ∧ (m.k, m.ns, m.ts) = saysO (k.toNat : Int) r ∧ MO w' w.heap.size m ∧ Below w.heap.size w w'

theorem textsF_len : ∀ (q : Nat) {bs : List UInt8} {ts : List ByteArray}, bs.length = q → textsF bs = some ts → ts.length ≤ bs.length := by
  intro q
  induction q using Nat.strongRecOn with
  | _ q ih =>
    intro bs ts hq h
    by_cases h0 : bs = []
    · subst h0; rw [textsF_nil] at h; injection h with h; subst h; simp
    by_cases h2 : bs.length < 2
    · rw [textsF_few h0 h2] at h; cases h
    by_cases h3 : bs.length < 2 + val (bs.take 2)
    · rw [textsF_short (by omega) h3] at h; cases h
    · rw [textsF_step (by omega) (by omega)] at h
      obtain ⟨us, hus, rfl⟩ := Option.map_eq_some_iff.1 h
      have := ih _ (by rw [List.length_drop]; omega) rfl hus
      rw [List.length_drop] at this
      simp only [List.length_cons]
      omega
theorem takeN_len : ∀ {ss : List Nat} {bs : List UInt8} {r : List Nat × List UInt8}, takeN ss bs = some r → r.2.length ≤ bs.length
  | [], bs, r, h => by
    simp only [takeN, Option.some.injEq] at h
    subst h
    exact Nat.le_refl _
  | s :: ss, bs, r, h => by
    simp only [takeN] at h
    split at h
    · cases h
    · obtain ⟨q, hq, rfl⟩ := Option.map_eq_some_iff.1 h
      have := takeN_len hq
      rw [List.length_drop] at this
      simp only
      omega

theorem apartF_len {k : Nat} {bs : List UInt8} {x : List Nat × List ByteArray} (hk : k < 15) (h : apartF k bs = some x) : x.1.length ≤ 3 ∧ x.2.length ≤ bs.length := by
  unfold apartF at h
  obtain ⟨q, hq, h2⟩ := Option.bind_eq_some_iff.1 h
  obtain ⟨ts, hts, rfl⟩ := Option.map_eq_some_iff.1 h2
  have h3 := takeN_len hq
  have h4 := textsF_len _ rfl hts
  have h5 := (takeN_lt hq (fun s hs => by
    obtain ⟨j, hj, rfl⟩ := List.getElem_of_mem hs
    obtain ⟨h1, h2, h3, _⟩ := szs_at k hk j (by rw [← szs_nums]; exact hj)
    rw [List.getElem?_eq_getElem hj] at h1
    injection h1 with h1
    omega)).2
  have h6 := szs_len k hk
  exact ⟨by simp only; omega, by simp only; omega⟩

set_option maxHeartbeats 1000000 in
theorem of_any (k : UInt8) (A : Option Addr) (bs : List UInt8) (l c : Nat) (w : World) (hr : Sl w w.heap.size A l c bs) (hl : l ≤ 100000) (hL : Lay w) : AnsO 12 #[frV k A l c] w k (ofF k bs) := by
  have hlen := hr.len
  unfold AnsO frV
  obtain ⟨b0, b1⟩ := alloc2 w (.cells #[.int .u8 (k.toNat : Int), .slice A l c] 28) (.cells #[.int .i64 0, .slice none 0 0, .slice none 0 0] 25)
  have k1 : Below w.heap.size w ((w.alloc (.cells #[.int .u8 (k.toNat : Int), .slice A l c] 28)).alloc (.cells #[.int .i64 0, .slice none 0 0, .slice none 0 0] 25)) := kp_alloc (kp_new _ _) _
  have z1 : w.heap.size + 2 = ((w.alloc (.cells #[.int .u8 (k.toNat : Int), .slice A l c] 28)).alloc (.cells #[.int .i64 0, .slice none 0 0, .slice none 0 0] 25)).heap.size := by simp
  have hk255 := k.toNat_lt
  have kz : ∀ w3 : World, Below w.heap.size w w3 → ∀ u v x : Value, Below w.heap.size w (((w3.setCell ⟨w.heap.size + 1, 0, none⟩ u).setCell ⟨w.heap.size + 1, 1, none⟩ v).setCell ⟨w.heap.size + 1, 2, none⟩ x) := fun w3 h u v x => ((h.setCell (Nat.le_succ _) _).setCell (Nat.le_succ _) _).setCell (Nat.le_succ _) _
  by_cases hk : 1 ≤ k.toNat ∧ k.toNat ≤ 14
  · have hI := isKind_any k.toNat ((w.alloc (.cells #[.int .u8 (k.toNat : Int), .slice A l c] 28)).alloc (.cells #[.int .i64 0, .slice none 0 0, .slice none 0 0] 25)) true (Lib.hid (decide_eq_true (by omega)))
    have HI := Lib.hid hI
    have KZ := Lib.hid kz
    have HB0 := Lib.hid b0
    have HB1 := Lib.hid b1
    have HZ := Lib.hid z1
    clear hI kz b0 b1 z1
    by_cases h300 : bs.length ≤ 300
    · have hA := takeApart_any k.toNat A bs l c _ (hr.next k1) hl (hL.next k1) (by omega)
      unfold ApartTo at hA
      have hL1 := hL.next k1
      have hd300 : decide ((300 : Int) < (l : Int)) = false := by simp; omega
      have hlens : ∀ x, apartF k.toNat bs = some x → x.1.length ≤ 3 ∧ x.2.length ≤ bs.length := fun x h => apartF_len (by omega) h
      cases hap : apartF k.toNat bs
      · have hO : ofF k bs = none := by rw [ofF, if_pos ⟨hk, h300⟩, hap]; rfl
        rw [hap] at hA
        rw [hO]
        have HA := Lib.hid hA
        clear hA hk hO h300 hlens
        go_enter Tryd.func12, Tryd.ntmps12
        go_wp2_with fail
        refine HI.out.mono ?_
        rintro e w' ⟨rfl, rfl⟩
        go_wp2_with fail
        refine HA.out.mono ?_
        rintro e w2 ⟨⟨mk, A1, l1, c1, ns, A2, l2, c2, ts⟩, rfl, hm, ho, k2⟩
        simp only [Mg.v]
        have hlt : w.heap.size + 1 < w2.heap.size := by have := k2.size; rw [← HZ.out] at this; omega
        obtain ⟨x0, x1, x2, f0, f1, f2⟩ := three_cells ((k2.block (w.heap.size + 1) (by rw [← HZ.out]; omega)).trans HB1.out)
        go_wp2_with fail
        refine bodyPost_ret (v := .tuple #[Mg.zero.v, .int .i64 2]) ?_ rfl ⟨Mg.zero, rfl, rfl, MO.zero _ _, ?_⟩
        · rw [results_cell_tmp rfl]
          unfold Mg.v Mg.zero
          go_simp
        · exact kp_alloc (KZ.out _ (kp_trans k1 k2) _ _ _) _
      · rename_i x
        obtain ⟨xn, xt⟩ := x
        obtain ⟨ln, lt⟩ := hlens _ hap
        rw [hap] at hA
        have HA := Lib.hid hA
        clear hA hlens
        cases hri : rightF k.toNat xn xt
        · have hO : ofF k bs = none := by rw [ofF, if_pos ⟨hk, h300⟩, hap]; simp [Option.filter, hri]
          rw [hO]
          have HR := Lib.hid hri
          clear hk hO h300 hri hap
          go_enter Tryd.func12, Tryd.ntmps12
          go_wp2_with fail
          refine HI.out.mono ?_
          rintro e w' ⟨rfl, rfl⟩
          go_wp2_with fail
          refine HA.out.mono ?_
          rintro e w2 ⟨⟨mk, A1, l1, c1, ns, A2, l2, c2, ts⟩, rfl, hm, ho, k2⟩
          simp only [saysO, Prod.mk.injEq] at hm
          obtain ⟨rfl, rfl, rfl⟩ := hm
          have hR := right_any ⟨k.toNat, A1, l1, c1, ns, A2, l2, c2, ts⟩ _ (ho.mr.next (kp_new w2 (.cells #[.int .i64 (k.toNat : Int), .slice A1 l1 c1, .slice A2 l2 c2] 25))) ((hL1.next k2).next (kp_new _ _)) (by have := ho.mr.ln; simp only at this ln ⊢; omega) (by have := ho.mr.lt; simp only at this lt ⊢; omega) false HR
          simp only [Mg.v] at hR ⊢
          have hlt : w.heap.size + 1 < w2.heap.size := by have := k2.size; rw [← HZ.out] at this; omega
          have hB2 := Lib.hid ((k2.block (w.heap.size + 1) (by rw [← HZ.out]; omega)).trans HB1.out)
          have HRR := Lib.hid hR
          clear hR
          go_wp2_with fail
          refine HRR.out.mono ?_
          rintro e w4 ⟨rfl, k4⟩
          obtain ⟨x0, x1, x2, f0, f1, f2⟩ := three_cells ((k4.block (w.heap.size + 1) (by simp; omega)).trans (((kp_new w2 _).block _ hlt).trans hB2.out))
          go_wp2_with fail
          refine bodyPost_ret (v := .tuple #[Mg.zero.v, .int .i64 2]) ?_ rfl ⟨Mg.zero, rfl, rfl, MO.zero _ _, ?_⟩
          · rw [results_cell_tmp rfl]
            unfold Mg.v Mg.zero
            go_simp
          · exact KZ.out _ (kp_trans (kp_alloc (kp_trans k1 k2) _) k4) _ _ _
        · have hO : ofF k bs = some (xn, xt) := by rw [ofF, if_pos ⟨hk, h300⟩, hap]; simp [Option.filter, hri]
          rw [hO]
          have HR := Lib.hid hri
          clear hk hO h300 hri hap
          go_enter Tryd.func12, Tryd.ntmps12
          go_wp2_with fail
          refine HI.out.mono ?_
          rintro e w' ⟨rfl, rfl⟩
          go_wp2_with fail
          refine HA.out.mono ?_
          rintro e w2 ⟨⟨mk, A1, l1, c1, ns, A2, l2, c2, ts⟩, rfl, hm, ho, k2⟩
          simp only [saysO, Prod.mk.injEq] at hm
          obtain ⟨rfl, rfl, rfl⟩ := hm
          have hR := right_any ⟨k.toNat, A1, l1, c1, ns, A2, l2, c2, ts⟩ _ (ho.mr.next (kp_new w2 (.cells #[.int .i64 (k.toNat : Int), .slice A1 l1 c1, .slice A2 l2 c2] 25))) ((hL1.next k2).next (kp_new _ _)) (by have := ho.mr.ln; simp only at this ln ⊢; omega) (by have := ho.mr.lt; simp only at this lt ⊢; omega) true HR
          simp only [Mg.v] at hR ⊢
          have hlt : w.heap.size + 1 < w2.heap.size := by have := k2.size; rw [← HZ.out] at this; omega
          have hB2 := Lib.hid ((k2.block (w.heap.size + 1) (by rw [← HZ.out]; omega)).trans HB1.out)
          have HRR := Lib.hid hR
          clear hR
          go_wp2_with fail
          refine HRR.out.mono ?_
          rintro e w4 ⟨rfl, k4⟩
          obtain ⟨x0, x1, x2, f0, f1, f2⟩ := three_cells ((k4.block (w.heap.size + 1) (by simp; omega)).trans (((kp_new w2 _).block _ hlt).trans hB2.out))
          obtain ⟨y0, y1, y2, _, _, _⟩ := three_cells ((k4.block w2.heap.size (by simp)).trans (heap_alloc_new w2 _))
          have ho4 := (ho.next (kp_new w2 _)).next k4
          go_wp2_with fail
          refine bodyPost_ret (v := .tuple #[Mg.v ⟨k.toNat, A1, l1, c1, ns, A2, l2, c2, ts⟩, .int .i64 0]) ?_ rfl ⟨⟨k.toNat, A1, l1, c1, ns, A2, l2, c2, ts⟩, rfl, rfl, ?_, ?_⟩
          · rw [results_cell_tmp rfl]
            unfold Mg.v
            go_simp
          · have h2 := HZ.out
            exact (((ho4.setCell (a := ⟨w.heap.size + 1, 0, none⟩) (by simp only; omega) _).setCell (a := ⟨w.heap.size + 1, 1, none⟩) (by simp only; omega) _).setCell (a := ⟨w.heap.size + 1, 2, none⟩) (by simp only; omega) _).base (by omega)
          · exact KZ.out _ (kp_trans (kp_alloc (kp_trans k1 k2) _) k4) _ _ _
    · have hO : ofF k bs = none := by rw [ofF, if_neg (fun h => h300 h.2)]
      have hd300 : decide ((300 : Int) < (l : Int)) = true := by simp; omega
      rw [hO]
      clear hk hO h300
      go_enter Tryd.func12, Tryd.ntmps12
      go_wp2_with fail
      refine HI.out.mono ?_
      rintro e w' ⟨rfl, rfl⟩
      go_wp2_with fail
      refine bodyPost_ret (v := .tuple #[Mg.zero.v, .int .i64 2]) ?_ rfl ⟨Mg.zero, rfl, rfl, MO.zero _ _, ?_⟩
      · rw [results_cell_tmp rfl]
        unfold Mg.v Mg.zero
        go_simp
      · exact k1
  · have hO : ofF k bs = none := by rw [ofF, if_neg (fun h => hk h.1)]
    have hI := isKind_any k.toNat ((w.alloc (.cells #[.int .u8 (k.toNat : Int), .slice A l c] 28)).alloc (.cells #[.int .i64 0, .slice none 0 0, .slice none 0 0] 25)) false (Lib.hid (decide_eq_false (by omega)))
    have HI := Lib.hid hI
    have KZ := Lib.hid kz
    rw [hO]
    clear hI b0 b1 hk kz hO
    go_enter Tryd.func12, Tryd.ntmps12
    go_wp2_with fail
    refine HI.out.mono ?_
    rintro e w' ⟨rfl, rfl⟩
    go_wp2_with fail
    refine bodyPost_ret (v := .tuple #[Mg.zero.v, .int .i64 2]) ?_ rfl ⟨Mg.zero, rfl, rfl, MO.zero _ _, ?_⟩
    · rw [results_cell_tmp rfl]
      unfold Mg.v Mg.zero
      go_simp
    · exact k1
end Go.Proofs.YtmklmakcampbbaaDoor
