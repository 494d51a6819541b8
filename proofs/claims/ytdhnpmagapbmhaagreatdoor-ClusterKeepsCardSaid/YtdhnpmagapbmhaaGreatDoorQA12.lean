/-
  Contracts and plain functions that the law stands on, part 12 of 19.
-/
import Derived.Test.YtdhnpmagapbmhaaGreatDoorQA11
import Derived.Deep.Cut
namespace Go.Proofs.YtdhnpmagapbmhaaGreatDoor
/- Layer 16: acts as rows; the law's large, entries: contracts; what an act tells. -/
section
open Go.RowKit
set_option maxRecDepth 100000

def Ac7.cells (x : Ac7) : List Value := [.int .i64 x.d, .int .i64 x.nd, .int .i64 x.c, .int .i64 x.m, .int .u64 x.e, .bool x.rd, .string x.t]
def ac7C (ts : List Ac7) : List Value := ts.flatMap Ac7.cells
theorem ac7C_length : ∀ ts : List Ac7, (ac7C ts).length = ts.length * 7
  | [] => rfl
  | r :: rs => by
    have := ac7C_length rs
    simp only [ac7C, List.flatMap_cons, List.length_append, List.length_cons, Ac7.cells, List.length_nil] at this ⊢
    omega
theorem ac7C_at : ∀ (rs : List Ac7) (j : Nat) (h : j < rs.length) (i : Nat) (v : Value), rs[j].cells[i]? = some v → (ac7C rs)[j * 7 + i]? = some v
  | [], _, h, _, _, _ => by simp at h
  | r :: rs, 0, _, i, v, hv => by
    have hv' : r.cells[i]? = some v := hv
    have hi : i < r.cells.length := (List.getElem?_eq_some_iff.1 hv').1
    simp only [ac7C, List.flatMap_cons, Nat.zero_mul, Nat.zero_add]
    rw [List.getElem?_append_left hi]
    exact hv'
  | r :: rs, j + 1, h, i, v, hv => by
    have ih := ac7C_at rs j (by simpa using h) i v hv
    have hl : r.cells.length = 7 := rfl
    simp only [ac7C, List.flatMap_cons] at ih ⊢
    rw [List.getElem?_append_right (by rw [hl]; omega), hl]
    rw [show (j + 1) * 7 + i - 7 = j * 7 + i by omega]
    exact ih
/-- a row of acts that is read -/
structure AG (w : World) (A : Option Addr) (n : Nat) (ts : List Ac7) : Prop where
  len : ts.length = n
  rd : Rd w w.heap.size A (ac7C ts)
theorem AG.next {w w' : World} {A : Option Addr} {n : Nat} {ts : List Ac7} (h : AG w A n ts) (hb : Below w.heap.size w w') : AG w' A n ts := ⟨h.len, (h.rd.below hb (Nat.le_refl _)).more hb.size⟩
theorem AG.at_ {w : World} {A : Option Addr} {n : Nat} {ts : List Ac7} (h : AG w A n ts) {j : Nat} (hj : j < ts.length) : ∃ ad, A = some ad ∧ ad.block < w.heap.size ∧ ∀ w', Below w.heap.size w w' →
    w'.cell? (ad.add (j * 7)) = some (.int .i64 ts[j].d) ∧ w'.cell? ⟨(ad.add (j * 7)).block, (ad.add (j * 7)).off + 1, none⟩ = some (.int .i64 ts[j].nd) ∧ w'.cell? ⟨(ad.add (j * 7)).block, (ad.add (j * 7)).off + 2, none⟩ = some (.int .i64 ts[j].c) ∧
    w'.cell? ⟨(ad.add (j * 7)).block, (ad.add (j * 7)).off + 3, none⟩ = some (.int .i64 ts[j].m) ∧ w'.cell? ⟨(ad.add (j * 7)).block, (ad.add (j * 7)).off + 4, none⟩ = some (.int .u64 ts[j].e) ∧ w'.cell? ⟨(ad.add (j * 7)).block, (ad.add (j * 7)).off + 5, none⟩ = some (.bool ts[j].rd) ∧ w'.cell? ⟨(ad.add (j * 7)).block, (ad.add (j * 7)).off + 6, none⟩ = some (.string ts[j].t) := by
  obtain ⟨ad, hA, hb, hc⟩ := h.rd.addr (by rw [ac7C_length]; omega)
  have key : ∀ (w' : World) (i : Nat) (v : Value), Below w.heap.size w w' → ts[j].cells[i]? = some v → w'.cell? (ad.add (j * 7 + i)) = some v := fun w' i v hw hv => by
    rw [hw.cell (by rw [add_block]; exact hb)]
    exact hc _ _ (ac7C_at ts j hj i v hv)
  have a1 : ∀ i, i ≠ 0 → (⟨(ad.add (j * 7)).block, (ad.add (j * 7)).off + i, none⟩ : Addr) = ad.add (j * 7 + i) := fun i hi => by rw [← add_add]; unfold Addr.add; simp [hi]
  refine ⟨ad, hA, hb, fun w' hw => ⟨key w' 0 _ hw rfl, ?_, ?_, ?_, ?_, ?_, ?_⟩⟩
  · rw [a1 1 (by decide)]; exact key w' 1 _ hw rfl
  · rw [a1 2 (by decide)]; exact key w' 2 _ hw rfl
  · rw [a1 3 (by decide)]; exact key w' 3 _ hw rfl
  · rw [a1 4 (by decide)]; exact key w' 4 _ hw rfl
  · rw [a1 5 (by decide)]; exact key w' 5 _ hw rfl
  · rw [a1 6 (by decide)]; exact key w' 6 _ hw rfl
def acP (x : Ac7) : Obj := .cells #[.int .i64 x.d, .int .i64 x.nd, .int .i64 x.c, .int .i64 x.m, .int .u64 x.e, .bool x.rd, .string x.t] 34 (0, 0)
set_option maxHeartbeats 8000000 in
/-- acts that are looked at -/
theorem llarge16_ok (A : Option Addr) (n c : Nat) (ts : List Ac7) (w : World) (hx : AG w A n ts) :
    Calls Tryz.prog 9 #[.slice A n c] w fun e w' => ∃ b, e = .returned (.bool b) ∧ (b = false → n ≤ 60 ∧ ∀ x ∈ ts, Sm x.t) ∧ Below w.heap.size w w' := by
  have HX := Lib.hid hx
  have HL := Lib.hid hx.len
  clear hx
  by_cases hbig : 60 < n
  · have h2 : (60 : Int) < (n : Int) := by omega
    go_enter Tryz.func9, Tryz.ntmps9
    go_wp2_with fail
    go_ret
    exact ⟨true, rfl, (fun h => by cases h), Below.refl _ _⟩
  have h2 : ¬ (60 : Int) < (n : Int) := by omega
  go_enter Tryz.func9, Tryz.ntmps9
  go_wp2_with fail
  go_loopw [10] (fun i wr => ∃ q : Nat, q ≤ n ∧ i = .int .i64 q ∧ Hid (∀ j (hj : j < ts.length), j < q → Sm ts[j].t) ∧ Hid (Below w.heap.size w wr)) (fun i _ => n - (intOf i).toNat)
  case atStart => exact ⟨0, Nat.zero_le _, rfl, Lib.hid (fun j _ h => absurd h (Nat.not_lt_zero _)), Lib.hid (Below.refl _ _)⟩
  case round =>
    obtain ⟨q, hq, rfl, he, hw⟩ := hrel
    by_cases hlt : q < n
    · have hql : q < ts.length := by rw [HL.out]; exact hlt
      obtain ⟨ad, rfl, _, hc⟩ := HX.out.at_ hql
      obtain ⟨d0, d1, d2, d3, d4, d5, d6⟩ := hc wr hw.out
      have HKW := Lib.hid (kp_alloc hw.out (acP ts[q]))
      unfold acP at HKW
      have hsz : Sm ts[q].t ∨ 300 < ts[q].t.size := by unfold Sm; omega
      have HNX : Hid (Sm ts[q].t → ∀ j (hj : j < ts.length), j < q + 1 → Sm ts[j].t) := Lib.hid fun h j hj hjq => by
        by_cases e : j = q
        · subst e; exact h
        · exact he.out j hj (by omega)
      clear hc he
      generalize ts[q].d = x0 at *
      generalize ts[q].nd = x1 at *
      generalize ts[q].c = x3 at *
      generalize ts[q].m = x4 at *
      generalize ts[q].e = x5 at *
      generalize ts[q].rd = x6 at *
      generalize ts[q].t = x7 at *
      rcases hsz with hs | hs
      · have HS := Lib.hid (HNX.out hs)
        have hs2 : ¬ (300 : Int) < (x7.size : Int) := by unfold Sm at hs; omega
        clear hs HNX
        go_wp2_with fail
        go_roundw
        case rel => exact ⟨q + 1, by omega, by go_num, HS, HKW⟩
        case measure => simp [intOf]; omega
      · have hs2 : (300 : Int) < (x7.size : Int) := by omega
        clear hs HNX
        go_wp2_with fail
        go_ret
        exact ⟨true, rfl, (fun h => by cases h), HKW.out⟩
    · obtain rfl : q = n := by omega
      go_wp2_with fail
      go_ret
      exact ⟨false, rfl, fun _ => ⟨by omega, fun x hx => by
        obtain ⟨j, hj, rfl⟩ := List.getElem_of_mem hx
        exact he.out j hj (by have := HL.out; omega)⟩, hw.out⟩
set_option maxHeartbeats 4000000 in
theorem lentries16_ok (A : Option Addr) (n c : Nat) (ts : List Lg) (w : World) (h : LR w A n ts) (hn : n ≤ 1000) :
    Calls Tryz.prog 20 #[.slice A n c] w fun e w' => ∃ A' c', e = .returned (.slice A' n c') ∧ LR w' A' n ts ∧ (∀ ad, A' = some ad → w.heap.size ≤ ad.block ∧ ad.block < w'.heap.size) ∧ Below w.heap.size w w' := by
  obtain ⟨i0, hi, hz0, hz1, hz2⟩ := info_parts entinfo
  have HX := Lib.hid h
  have HL := Lib.hid h.len
  have HO0 : Hid ((w.alloc (.cells #[] 100)).ownsRow w.heap.size 100 2 (.slice (some ⟨w.heap.size, 0, none⟩) 0 0) 0 (lgC (ts.take 0))) := Lib.hid (own_new_s w w.heap.size 2 100 0 [] rfl (Nat.le_refl _) (Nat.zero_le _))
  have HK0 := Lib.hid (kp_new w (.cells #[] 100))
  clear h
  go_enter Tryz.func20, Tryz.ntmps20
  go_wp2_with fail
  go_loopw [3, 9] (fun o i wr => ∃ (q e : Nat) (D : Option Addr), q ≤ n ∧ i = .int .i64 q ∧ o = .slice D q e ∧ Hid (wr.ownsRow w.heap.size 100 2 (.slice D q e) q (lgC (ts.take q))) ∧ Hid (Below w.heap.size w wr)) (fun _ i _ => n - (intOf i).toNat)
  case atStart => exact ⟨0, 0, _, Nat.zero_le _, rfl, rfl, HO0, HK0⟩
  case round =>
    obtain ⟨q, e, D, hq, rfl, rfl, ho, hb⟩ := hrel
    clear HO0 HK0
    by_cases hlt : q < n
    · have hql : q < ts.length := by rw [HL.out]; exact hlt
      have HNX : Hid (lgC (ts.take (q + 1)) = lgC (ts.take q) ++ [.int .u64 ts[q].e, .string ts[q].t]) := Lib.hid (by
        rw [List.take_succ_eq_append_getElem hql, lgC_append]
        rfl)
      obtain ⟨ad, rfl, _, hc⟩ := HX.out.at_ hql
      obtain ⟨d1, d2⟩ := hc wr hb.out
      clear hc
      generalize ts[q].e = x1 at *
      generalize ts[q].t = x2 at *
      have HO1 := Lib.hid ((ho.out.alloc (.cells #[.int .u64 x1, .string x2] 69)).alloc (.cells #[.int .u64 x1, .string x2] 100))
      have HSRC : Hid (Rd ((wr.alloc (.cells #[.int .u64 x1, .string x2] 69)).alloc (.cells #[.int .u64 x1, .string x2] 100)) (wr.heap.size + 1 + 1) (some ⟨wr.heap.size + 1, 0, none⟩) [.int .u64 x1, .string x2]) := Lib.hid (by
        have := Rd.new (wr.alloc (.cells #[.int .u64 x1, .string x2] 69)) 100 [.int .u64 x1, .string x2]
        rwa [World.size_alloc] at this)
      have KA := Lib.hid (kp_alloc (kp_alloc hb.out (.cells #[.int .u64 x1, .string x2] 69)) (.cells #[.int .u64 x1, .string x2] 100))
      have HSW := Lib.hid KA.out.size
      clear ho
      go_wp2_with (at_builtin; refine wpList_append_rds rfl _ _ _ rfl w.heap.size 100 i0 _ 2 24 Tryz.underlying53 hi hz0 hz1 hz2 rfl (by omega) _ q _ rfl HO1.out _ _ 1 _ [.int .u64 x1, .string x2] rfl rfl HSRC.out (by simp [Value.oneCell']) (by unfold maxLen; omega) (by omega) HSW.out ?_; intro v3 w3 hown3 hg3; obtain ⟨D3, e3, rfl, _, _⟩ := own_form_s hown3; have HO3 := Lib.hid hown3; have HK3 := Lib.hid (KA.out.trans (below_own_s HO1.out hg3 HSW.out)); clear hown3 hg3)
      go_roundw
      case rel => exact ⟨q + 1, e3, D3, by omega, by go_num, rfl, Lib.hid (by rw [HNX.out]; exact HO3.out), HK3⟩
      case measure => simp [intOf]; omega
    · obtain rfl : q = n := by omega
      rw [List.take_of_length_le (by rw [HL.out]; exact Nat.le_refl _)] at ho
      go_wp2_with fail
      go_ret
      exact ⟨D, e, rfl, LR.of_own ho.out, (fun ad h => own_blk15 ho.out ad h), hb.out⟩
/-- what an act tells, as a value -/
def toV16 (t : To16) (A : Option Addr) (m d : Nat) : Value := .agg #[.int .i64 t.r.e, .int .u64 t.r.ep, .int .u64 t.r.pl, .slice A m d, .bool t.is, .int .u64 t.p.e, .int .i64 t.p.p, .int .u64 t.p.c, .int .i64 t.e, .int .i64 t.many]
def toZ16 : Obj := .cells #[.int .i64 0, .int .u64 0, .int .u64 0, .slice none 0 0, .bool false, .int .u64 0, .int .i64 0, .int .u64 0, .int .i64 0, .int .i64 0] 41 (0, 0)
theorem to16_none (i : Nat) (s : ByteArray) : (#[.int .i64 0, .int .u64 0, .int .u64 0, .slice none 0 0, .bool false, .int .u64 0, .int .i64 0, .int .u64 0, .int .i64 0, .int .i64 0] : Array Value)[i]? ≠ some (.string s) := by
  match i with
  | 0 => simp
  | 1 => simp
  | 2 => simp
  | 3 => simp
  | 4 => simp
  | 5 => simp
  | 6 => simp
  | 7 => simp
  | 8 => simp
  | 9 => simp
  | n + 10 => simp
end

/- Layer 16: the law's own, over the document's cluster: contract. -/
section
open Go.RowKit
set_option maxRecDepth 100000

/-- texts stay behind what is written into two blocks that hold none -/
theorem XR.past16 {u u' : World} {A : Option Addr} {m xb : Nat} {ss : List ByteArray} (h : XR u A m ss) (h1 : u.heap[xb + 1]? = some toZ16) (h2 : u.heap[xb + 1 + 1]? = some toZ16) (ho : Off (fun k => k = xb + 1 ∨ k = xb + 1 + 1) u u') : XR u' A m ss := by
  rcases ss with _ | ⟨s, ss⟩
  · exact ⟨h.len, .inl rfl⟩
  · refine h.off ho.size fun ad hA => ho.block _ ?_ ?_
    · obtain ⟨ad', hA', hlt, _⟩ := h.at_ (j := 0) (by simp)
      rw [hA] at hA'
      obtain rfl : ad = ad' := Option.some.inj hA'
      exact hlt
    · intro e
      obtain ⟨ad', hA', _, hc⟩ := h.at_ (j := 0) (by simp)
      rw [hA] at hA'
      obtain rfl : ad = ad' := Option.some.inj hA'
      have hh : u.heap[(ad.add 0).block]? = some toZ16 := by
        rw [add_block]
        rcases e with e | e
        · rw [e]; exact h1
        · rw [e]; exact h2
      unfold World.cell? at hc
      rw [hh] at hc
      unfold toZ16 at hc
      dsimp only at hc
      split at hc
      · cases hc
      · exact to16_none _ _ hc
section
variable {b : Nat} {c : Cu} {S : Nat → Prop} {w : World} {k : Nat}
end
end

/- Layer 16: the law's do, over ClusterC: contract. -/
section
open Go.RowKit
set_option maxRecDepth 100000

theorem Told1.ahead {Y : Thing} {S : Nat → Prop} {A : Option Addr} {w u w' : World} (ht : Told1 Y S A u w') (hb : Below w.heap.size w u) : Told1 Y S A w w' := by
  obtain ⟨⟨S', h1, h2, h4⟩, h3⟩ := ht
  exact ⟨⟨S', h1, fun k hk => (h2 k hk).imp id fun e => Nat.le_trans hb.size e, fun ad hA => ⟨Nat.le_trans hb.size (h4 ad hA).1, (h4 ad hA).2⟩⟩, (Off.of S hb).trans h3 fun i hi => .inl hi⟩
theorem epX_u {k : Nat} {c : Cu} {x : Ac7} (hI : CuI k c) (hx : x.Fine) : U64n (epX c x) := by
  unfold epX epCu
  split
  · split
    · exact ⟨(hI.nd _).e0, (hI.nd _).eu⟩
    · exact ⟨by decide, by decide⟩
  · exact hx.e
section
variable {X : Nat → Cu → Thing} {b : Nat} {c : Cu} {S : Nat → Prop} {w : World} {k : Nat}
set_option maxHeartbeats 4000000 in
theorem ldo16_ok (C : ClusterC X) (hL : Lw w) (x : Ac7) (h : (X b c).p S w) (hI : CuI k c) (hk : k ≤ 800) (hx : x.Fine) (ht : Sm x.t) :
    Calls Tryz.prog 12 #[.pointer (some ⟨b, 0, none⟩), .agg #[.int .i64 x.d, .int .i64 x.nd, .int .i64 x.c, .int .i64 x.m, .int .u64 x.e, .bool x.rd, .string x.t]] w fun e w' => ∃ (A' : Option Addr) (m' d' : Nat), e = .returned (toV16 (actCu c x).1 A' m' d') ∧ XR w' A' m' (actCu c x).1.r.ts ∧ Told1 (X b (actCu c x).2) S A' w w' := by
  obtain ⟨w3, hw3⟩ : ∃ u, ((w.alloc (acP x)).alloc toZ16).alloc toZ16 = u := ⟨_, rfl⟩
  have k3 : Below w.heap.size w w3 := hw3 ▸ kp_alloc (kp_alloc (kp_new _ _) _) _
  obtain ⟨xb, hxb⟩ : ∃ b, w.heap.size = b := ⟨_, rfl⟩
  have hz3 : w3.heap.size = xb + 3 := by rw [← hw3, ← hxb]; simp
  have bx : w3.heap[xb]? = some (acP x) := by
    rw [← hxb, ← hw3, heap_alloc_old _ _ (by simp; omega), heap_alloc_old _ _ (by simp)]
    exact heap_alloc_new w _
  have b4 : w3.heap[xb + 1]? = some toZ16 := by
    rw [← hxb, ← hw3, heap_alloc_old _ _ (by simp)]
    have := heap_alloc_new (w.alloc (acP x)) toZ16
    rwa [World.size_alloc] at this
  have b5 : w3.heap[xb + 1 + 1]? = some toZ16 := by
    rw [← hxb, ← hw3]
    have := heap_alloc_new ((w.alloc (acP x)).alloc toZ16) toZ16
    rwa [World.size_alloc, World.size_alloc] at this
  have hsz : ∀ k, S k → k < w.heap.size := (X b c).lt h
  have h3 := Thing.next h k3
  have HT3 := Lib.hid h3
  have HK3 := Lib.hid k3
  have HW3 := Lib.hid hw3
  have HXB := Lib.hid hxb
  have HB4 := Lib.hid b4
  have HB5 := Lib.hid b5
  have HBX := Lib.hid bx
  have HZ3 := Lib.hid hz3
  have HS := Lib.hid hsz
  have HLO : Hid (∀ u, Below w3.heap.size w3 u → u.cell? ⟨xb, 0, none⟩ = some (.int .i64 x.d) ∧ u.cell? ⟨xb, 1, none⟩ = some (.int .i64 x.nd) ∧ u.cell? ⟨xb, 2, none⟩ = some (.int .i64 x.c) ∧ u.cell? ⟨xb, 3, none⟩ = some (.int .i64 x.m) ∧ u.cell? ⟨xb, 4, none⟩ = some (.int .u64 x.e) ∧ u.cell? ⟨xb, 5, none⟩ = some (.bool x.rd) ∧ u.cell? ⟨xb, 6, none⟩ = some (.string x.t)) := Lib.hid fun u hu => by
    have h1 := (hu.block xb (by have := HZ3.out; omega)).trans HBX.out
    unfold acP at h1
    exact ⟨(cellsAt h1 0 rfl).1, (cellsAt h1 1 rfl).1, (cellsAt h1 2 rfl).1, (cellsAt h1 3 rfl).1, (cellsAt h1 4 rfl).1, (cellsAt h1 5 rfl).1, (cellsAt h1 6 rfl).1⟩
  unfold acP toZ16 at HW3
  clear h k3 hw3 hxb b4 b5 hz3 bx hsz
  by_cases h1 : x.d = 1
  · have ha : actCu c x = (⟨noRp, (clsCu c x.nd x.c).1, noPr, 0, 0⟩, (clsCu c x.nd x.c).2) := by
      unfold actCu
      rw [if_neg (by omega), if_pos h1]
    rw [ha]
    have HQ := Lib.hid (C.close b c k x.nd x.c S w3 h3 hI hk hx.nd hx.c)
    obtain ⟨x0, x1, x2, x3, x4, x5, x6⟩ := HLO.out w3 (Below.refl _ _)
    rw [h1] at x0
    have HW4 : Hid (((w.alloc (.cells #[.int .i64 1, .int .i64 x.nd, .int .i64 x.c, .int .i64 x.m, .int .u64 x.e, .bool x.rd, .string x.t] 34)).alloc (.cells #[.int .i64 0, .int .u64 0, .int .u64 0, .slice none 0 0, .bool false, .int .u64 0, .int .i64 0, .int .u64 0, .int .i64 0, .int .i64 0] 41)).alloc (.cells #[.int .i64 0, .int .u64 0, .int .u64 0, .slice none 0 0, .bool false, .int .u64 0, .int .i64 0, .int .u64 0, .int .i64 0, .int .i64 0] 41) = w3) := Lib.hid (by have z := HW3.out; rw [h1] at z; exact z)
    clear ha
    go_enter Tryz.func12, Tryz.ntmps12
    rw [h1]
    go_wp2_with fail
    rw [HW4.out, HXB.out]
    refine HQ.out.mono ?_
    rintro e w5 ⟨rfl, ht⟩
    replace ht := ht.none
    have c5 : w5.heap[xb + 1 + 1]? = some toZ16 := (ht.off.block _ (by have := HZ3.out; omega) (fun e => by have := HS.out _ e; have := HXB.out; omega)).trans HB5.out
    have c4 : w5.heap[xb + 1]? = some toZ16 := (ht.off.block _ (by have := HZ3.out; omega) (fun e => by have := HS.out _ e; have := HXB.out; omega)).trans HB4.out
    have HTT := Lib.hid ht
    have HZ5 := Lib.hid ht.off.size
    have HC4 := Lib.hid c4
    have HC5 := Lib.hid c5
    clear ht
    unfold toZ16 at c4 c5
    have hlt5 : xb + 1 + 1 < w5.heap.size := (Array.getElem?_eq_some_iff.1 c5).1
    obtain ⟨u0, p0⟩ := cellsAt c5 0 (v := .int .i64 0) rfl
    obtain ⟨s0, q0⟩ := cellsAt c4 0 (v := .int .i64 0) rfl
    obtain ⟨u1, p1⟩ := cellsAt c5 1 (v := .int .u64 0) rfl
    obtain ⟨s1, q1⟩ := cellsAt c4 1 (v := .int .u64 0) rfl
    obtain ⟨u2, p2⟩ := cellsAt c5 2 (v := .int .u64 0) rfl
    obtain ⟨s2, q2⟩ := cellsAt c4 2 (v := .int .u64 0) rfl
    obtain ⟨u3, p3⟩ := cellsAt c5 3 (v := .slice none 0 0) rfl
    obtain ⟨s3, q3⟩ := cellsAt c4 3 (v := .slice none 0 0) rfl
    obtain ⟨u4, p4⟩ := cellsAt c5 4 (v := .bool false) rfl
    obtain ⟨s4, q4⟩ := cellsAt c4 4 (v := .bool false) rfl
    obtain ⟨u5, p5⟩ := cellsAt c5 5 (v := .int .u64 0) rfl
    obtain ⟨s5, q5⟩ := cellsAt c4 5 (v := .int .u64 0) rfl
    obtain ⟨u6, p6⟩ := cellsAt c5 6 (v := .int .i64 0) rfl
    obtain ⟨s6, q6⟩ := cellsAt c4 6 (v := .int .i64 0) rfl
    obtain ⟨u7, p7⟩ := cellsAt c5 7 (v := .int .u64 0) rfl
    obtain ⟨s7, q7⟩ := cellsAt c4 7 (v := .int .u64 0) rfl
    obtain ⟨u8, p8⟩ := cellsAt c5 8 (v := .int .i64 0) rfl
    obtain ⟨s8, q8⟩ := cellsAt c4 8 (v := .int .i64 0) rfl
    obtain ⟨u9, p9⟩ := cellsAt c5 9 (v := .int .i64 0) rfl
    obtain ⟨s9, q9⟩ := cellsAt c4 9 (v := .int .i64 0) rfl
    clear c5 c4
    go_wp2_with fail
    refine bodyPost_ret (v := toV16 ⟨noRp, (clsCu c x.nd x.c).1, noPr, 0, 0⟩ none 0 0) ?_ rfl ⟨none, 0, 0, rfl, ?_, ?_⟩
    · rw [results_cell1 rfl]
      unfold toV16 noRp noPr
      go_simp
    · exact XR.nil _
    · exact Told1.behind HXB.out HZ3.out HK3.out HS.out HTT.out (Off.wide (S := fun k => k = xb + 1 ∨ k = xb + 1 + 1) (Off.setCell (p := ⟨xb + 1, 9, none⟩) (Off.setCell (p := ⟨xb + 1, 8, none⟩) (Off.setCell (p := ⟨xb + 1, 7, none⟩) (Off.setCell (p := ⟨xb + 1, 6, none⟩) (Off.setCell (p := ⟨xb + 1, 5, none⟩) (Off.setCell (p := ⟨xb + 1, 4, none⟩) (Off.setCell (p := ⟨xb + 1, 3, none⟩) (Off.setCell (p := ⟨xb + 1, 2, none⟩) (Off.setCell (p := ⟨xb + 1, 1, none⟩) (Off.setCell (p := ⟨xb + 1, 0, none⟩) (Off.setCell (p := ⟨xb + 1 + 1, 4, none⟩) (Off.refl (fun k => k = xb + 1 ∨ k = xb + 1 + 1) w5) (.inl (.inr rfl)) _) (.inl (.inl rfl)) _) (.inl (.inl rfl)) _) (.inl (.inl rfl)) _) (.inl (.inl rfl)) _) (.inl (.inl rfl)) _) (.inl (.inl rfl)) _) (.inl (.inl rfl)) _) (.inl (.inl rfl)) _) (.inl (.inl rfl)) _) (.inl (.inl rfl)) _) fun k hk => by omega)
  by_cases h2 : x.d = 2
  · have ha : actCu c x = (⟨noRp, false, (proCu c x.nd).1.1, (proCu c x.nd).1.2, 0⟩, (proCu c x.nd).2) := by
      unfold actCu
      rw [if_neg (by omega), if_neg h1, if_pos h2]
    rw [ha]
    have HQ := Lib.hid (C.promote b c k x.nd S w3 h3 hI hk hx.nd)
    obtain ⟨x0, x1, x2, x3, x4, x5, x6⟩ := HLO.out w3 (Below.refl _ _)
    generalize hR : proCu c x.nd = R at HQ ⊢
    clear hR
    rw [h2] at x0
    have HW4 : Hid (((w.alloc (.cells #[.int .i64 2, .int .i64 x.nd, .int .i64 x.c, .int .i64 x.m, .int .u64 x.e, .bool x.rd, .string x.t] 34)).alloc (.cells #[.int .i64 0, .int .u64 0, .int .u64 0, .slice none 0 0, .bool false, .int .u64 0, .int .i64 0, .int .u64 0, .int .i64 0, .int .i64 0] 41)).alloc (.cells #[.int .i64 0, .int .u64 0, .int .u64 0, .slice none 0 0, .bool false, .int .u64 0, .int .i64 0, .int .u64 0, .int .i64 0, .int .i64 0] 41) = w3) := Lib.hid (by have z := HW3.out; rw [h2] at z; exact z)
    clear ha
    go_enter Tryz.func12, Tryz.ntmps12
    rw [h2]
    go_wp2_with fail
    rw [HW4.out, HXB.out]
    refine HQ.out.mono ?_
    rintro e w5 ⟨rfl, ht⟩
    replace ht := ht.none
    go_upto_region 14 with fail
    obtain ⟨w6, hw6⟩ : ∃ u, w5.alloc (.cells #[.int .u64 R.1.1.e, .int .i64 R.1.1.p, .int .u64 R.1.1.c] 45) = u := ⟨_, rfl⟩
    obtain ⟨pb, hpb⟩ : ∃ y, w5.heap.size = y := ⟨_, rfl⟩
    have k6 : Below w5.heap.size w5 w6 := hw6 ▸ kp_new w5 _
    have bn : w6.heap[pb]? = some (.cells #[.int .u64 R.1.1.e, .int .i64 R.1.1.p, .int .u64 R.1.1.c] 45 (0, 0)) := by rw [← hw6, ← hpb]; exact heap_alloc_new w5 _
    have n0 := (cellsAt bn 0 rfl).1
    have n1 := (cellsAt bn 1 rfl).1
    have n2 := (cellsAt bn 2 rfl).1
    rw [hw6, hpb]
    replace ht := ht.below k6
    clear hw6 hpb bn
    have c5 : w6.heap[xb + 1 + 1]? = some toZ16 := (ht.off.block _ (by have := HZ3.out; omega) (fun e => by have := HS.out _ e; have := HXB.out; omega)).trans HB5.out
    have c4 : w6.heap[xb + 1]? = some toZ16 := (ht.off.block _ (by have := HZ3.out; omega) (fun e => by have := HS.out _ e; have := HXB.out; omega)).trans HB4.out
    have HTT := Lib.hid ht
    have HZ5 := Lib.hid ht.off.size
    have HC4 := Lib.hid c4
    have HC5 := Lib.hid c5
    clear ht
    unfold toZ16 at c4 c5
    have hlt5 : xb + 1 + 1 < w6.heap.size := (Array.getElem?_eq_some_iff.1 c5).1
    obtain ⟨u0, p0⟩ := cellsAt c5 0 (v := .int .i64 0) rfl
    obtain ⟨s0, q0⟩ := cellsAt c4 0 (v := .int .i64 0) rfl
    obtain ⟨u1, p1⟩ := cellsAt c5 1 (v := .int .u64 0) rfl
    obtain ⟨s1, q1⟩ := cellsAt c4 1 (v := .int .u64 0) rfl
    obtain ⟨u2, p2⟩ := cellsAt c5 2 (v := .int .u64 0) rfl
    obtain ⟨s2, q2⟩ := cellsAt c4 2 (v := .int .u64 0) rfl
    obtain ⟨u3, p3⟩ := cellsAt c5 3 (v := .slice none 0 0) rfl
    obtain ⟨s3, q3⟩ := cellsAt c4 3 (v := .slice none 0 0) rfl
    obtain ⟨u4, p4⟩ := cellsAt c5 4 (v := .bool false) rfl
    obtain ⟨s4, q4⟩ := cellsAt c4 4 (v := .bool false) rfl
    obtain ⟨u5, p5⟩ := cellsAt c5 5 (v := .int .u64 0) rfl
    obtain ⟨s5, q5⟩ := cellsAt c4 5 (v := .int .u64 0) rfl
    obtain ⟨u6, p6⟩ := cellsAt c5 6 (v := .int .i64 0) rfl
    obtain ⟨s6, q6⟩ := cellsAt c4 6 (v := .int .i64 0) rfl
    obtain ⟨u7, p7⟩ := cellsAt c5 7 (v := .int .u64 0) rfl
    obtain ⟨s7, q7⟩ := cellsAt c4 7 (v := .int .u64 0) rfl
    obtain ⟨u8, p8⟩ := cellsAt c5 8 (v := .int .i64 0) rfl
    obtain ⟨s8, q8⟩ := cellsAt c4 8 (v := .int .i64 0) rfl
    obtain ⟨u9, p9⟩ := cellsAt c5 9 (v := .int .i64 0) rfl
    obtain ⟨s9, q9⟩ := cellsAt c4 9 (v := .int .i64 0) rfl
    clear c5 c4
    go_wp2_with fail
    refine bodyPost_ret (v := toV16 ⟨noRp, false, R.1.1, R.1.2, 0⟩ none 0 0) ?_ rfl ⟨none, 0, 0, rfl, ?_, ?_⟩
    · rw [results_cell1 rfl]
      unfold toV16 noRp
      go_simp
    · exact XR.nil _
    · exact Told1.behind HXB.out HZ3.out HK3.out HS.out HTT.out (Off.wide (S := fun k => k = xb + 1 ∨ k = xb + 1 + 1) (Off.setCell (p := ⟨xb + 1, 9, none⟩) (Off.setCell (p := ⟨xb + 1, 8, none⟩) (Off.setCell (p := ⟨xb + 1, 7, none⟩) (Off.setCell (p := ⟨xb + 1, 6, none⟩) (Off.setCell (p := ⟨xb + 1, 5, none⟩) (Off.setCell (p := ⟨xb + 1, 4, none⟩) (Off.setCell (p := ⟨xb + 1, 3, none⟩) (Off.setCell (p := ⟨xb + 1, 2, none⟩) (Off.setCell (p := ⟨xb + 1, 1, none⟩) (Off.setCell (p := ⟨xb + 1, 0, none⟩) (Off.setCell (p := ⟨xb + 1 + 1, 8, none⟩) (Off.setCell (p := ⟨xb + 1 + 1, 7, none⟩) (Off.setCell (p := ⟨xb + 1 + 1, 6, none⟩) (Off.setCell (p := ⟨xb + 1 + 1, 5, none⟩) (Off.refl (fun k => k = xb + 1 ∨ k = xb + 1 + 1) w6) (.inl (.inr rfl)) _) (.inl (.inr rfl)) _) (.inl (.inr rfl)) _) (.inl (.inr rfl)) _) (.inl (.inl rfl)) _) (.inl (.inl rfl)) _) (.inl (.inl rfl)) _) (.inl (.inl rfl)) _) (.inl (.inl rfl)) _) (.inl (.inl rfl)) _) (.inl (.inl rfl)) _) (.inl (.inl rfl)) _) (.inl (.inl rfl)) _) (.inl (.inl rfl)) _) fun k hk => by omega)
  by_cases h0 : x.d = 0
  · have ha : actCu c x = (⟨(runCu c x.nd x.c (epX c x) x.rd x.t).1, false, noPr, 0, 0⟩, (runCu c x.nd x.c (epX c x) x.rd x.t).2) := by
      unfold actCu
      rw [if_pos h0]
    rw [ha]
    have HQ : Hid (∀ u, Below w3.heap.size w3 u → Calls Tryz.prog 27 #[.pointer (some ⟨b, 0, none⟩), .int .i64 x.nd, .int .i64 x.c, .int .u64 (epX c x), .bool x.rd, .string x.t] u fun e' w' => ∃ A m d, e' = .returned (rpV (runCu c x.nd x.c (epX c x) x.rd x.t).1 A m d) ∧ XR w' A m (runCu c x.nd x.c (epX c x) x.rd x.t).1.ts ∧ Told1 (X b (runCu c x.nd x.c (epX c x) x.rd x.t).2) S A w3 w') := Lib.hid fun u hu =>
      (C.run b c k x.nd x.c (epX c x) x.rd x.t S u ((hL.next HK3.out).next hu) (Thing.next HT3.out hu) hI hk ht hx.nd hx.c (epX_u hI hx)).mono fun _ _ ⟨A, m, d, h1, h2, h3⟩ => ⟨A, m, d, h1, h2, h3.ahead hu⟩
    by_cases he : x.e = 0
    · have HEP := Lib.hid (C.epoch b c k x.nd S w3 HT3.out hI hx.nd)
      have hepx : epX c x = epCu c x.nd := by unfold epX; rw [if_pos he]
      rw [hepx] at HQ ⊢
      clear hepx
      generalize hR : runCu c x.nd x.c (epCu c x.nd) x.rd x.t = R at HQ ⊢
      clear hR
      obtain ⟨x0, x1, x2, x3, x4, x5, x6⟩ := HLO.out w3 (Below.refl _ _)
      rw [he] at x4
      rw [h0] at x0
      have HW4 : Hid (((w.alloc (.cells #[.int .i64 0, .int .i64 x.nd, .int .i64 x.c, .int .i64 x.m, .int .u64 0, .bool x.rd, .string x.t] 34)).alloc (.cells #[.int .i64 0, .int .u64 0, .int .u64 0, .slice none 0 0, .bool false, .int .u64 0, .int .i64 0, .int .u64 0, .int .i64 0, .int .i64 0] 41)).alloc (.cells #[.int .i64 0, .int .u64 0, .int .u64 0, .slice none 0 0, .bool false, .int .u64 0, .int .i64 0, .int .u64 0, .int .i64 0, .int .i64 0] 41) = w3) := Lib.hid (by have z := HW3.out; rw [h0, he] at z; exact z)
      clear ha
      go_enter Tryz.func12, Tryz.ntmps12
      rw [h0, he]
      go_wp2_with fail
      rw [HW4.out, HXB.out]
      refine HEP.out.mono ?_
      rintro e w4 ⟨rfl, k4⟩
      have K4 := Lib.hid k4
      clear k4 x0 x1 x2 x3 x4 x5 x6
      obtain ⟨x0, x1, x2, x3, x4, x5, x6⟩ := HLO.out w4 K4.out
      rw [h0] at x0
      go_wp2_with fail
      refine (HQ.out w4 K4.out).mono ?_
      rintro e w5 ⟨A, m, d, rfl, hr, ht⟩
      unfold rpV
      dsimp only
      go_upto_region 9 with fail
      obtain ⟨w6, hw6⟩ : ∃ u, w5.alloc (.cells #[.int .i64 R.1.e, .int .u64 R.1.ep, .int .u64 R.1.pl, .slice A m d] 73) = u := ⟨_, rfl⟩
      obtain ⟨pb, hpb⟩ : ∃ y, w5.heap.size = y := ⟨_, rfl⟩
      have k6 : Below w5.heap.size w5 w6 := hw6 ▸ kp_new w5 _
      have bn : w6.heap[pb]? = some (.cells #[.int .i64 R.1.e, .int .u64 R.1.ep, .int .u64 R.1.pl, .slice A m d] 73 (0, 0)) := by rw [← hw6, ← hpb]; exact heap_alloc_new w5 _
      have n0 := (cellsAt bn 0 rfl).1
      have n1 := (cellsAt bn 1 rfl).1
      have n2 := (cellsAt bn 2 rfl).1
      have n3 := (cellsAt bn 3 rfl).1
      rw [hw6, hpb]
      replace ht := ht.below k6
      replace hr := hr.next k6
      clear hw6 hpb bn
      have c5 : w6.heap[xb + 1 + 1]? = some toZ16 := (ht.off.block _ (by have := HZ3.out; omega) (fun e => by have := HS.out _ e; have := HXB.out; omega)).trans HB5.out
      have c4 : w6.heap[xb + 1]? = some toZ16 := (ht.off.block _ (by have := HZ3.out; omega) (fun e => by have := HS.out _ e; have := HXB.out; omega)).trans HB4.out
      have HTT := Lib.hid ht
      have HZ5 := Lib.hid ht.off.size
      have HC4 := Lib.hid c4
      have HC5 := Lib.hid c5
      clear ht
      unfold toZ16 at c4 c5
      have hlt5 : xb + 1 + 1 < w6.heap.size := (Array.getElem?_eq_some_iff.1 c5).1
      obtain ⟨u0, p0⟩ := cellsAt c5 0 (v := .int .i64 0) rfl
      obtain ⟨s0, q0⟩ := cellsAt c4 0 (v := .int .i64 0) rfl
      obtain ⟨u1, p1⟩ := cellsAt c5 1 (v := .int .u64 0) rfl
      obtain ⟨s1, q1⟩ := cellsAt c4 1 (v := .int .u64 0) rfl
      obtain ⟨u2, p2⟩ := cellsAt c5 2 (v := .int .u64 0) rfl
      obtain ⟨s2, q2⟩ := cellsAt c4 2 (v := .int .u64 0) rfl
      obtain ⟨u3, p3⟩ := cellsAt c5 3 (v := .slice none 0 0) rfl
      obtain ⟨s3, q3⟩ := cellsAt c4 3 (v := .slice none 0 0) rfl
      obtain ⟨u4, p4⟩ := cellsAt c5 4 (v := .bool false) rfl
      obtain ⟨s4, q4⟩ := cellsAt c4 4 (v := .bool false) rfl
      obtain ⟨u5, p5⟩ := cellsAt c5 5 (v := .int .u64 0) rfl
      obtain ⟨s5, q5⟩ := cellsAt c4 5 (v := .int .u64 0) rfl
      obtain ⟨u6, p6⟩ := cellsAt c5 6 (v := .int .i64 0) rfl
      obtain ⟨s6, q6⟩ := cellsAt c4 6 (v := .int .i64 0) rfl
      obtain ⟨u7, p7⟩ := cellsAt c5 7 (v := .int .u64 0) rfl
      obtain ⟨s7, q7⟩ := cellsAt c4 7 (v := .int .u64 0) rfl
      obtain ⟨u8, p8⟩ := cellsAt c5 8 (v := .int .i64 0) rfl
      obtain ⟨s8, q8⟩ := cellsAt c4 8 (v := .int .i64 0) rfl
      obtain ⟨u9, p9⟩ := cellsAt c5 9 (v := .int .i64 0) rfl
      obtain ⟨s9, q9⟩ := cellsAt c4 9 (v := .int .i64 0) rfl
      clear c5 c4
      have HR := Lib.hid hr
      clear hr
      go_wp2_with fail
      refine bodyPost_ret (v := toV16 ⟨R.1, false, noPr, 0, 0⟩ A m d) ?_ rfl ⟨A, m, d, rfl, ?_, ?_⟩
      · rw [results_cell1 rfl]
        unfold toV16 noPr
        go_simp
      · exact HR.out.past16 HC4.out HC5.out (Off.setCell (p := ⟨xb + 1, 9, none⟩) (Off.setCell (p := ⟨xb + 1, 8, none⟩) (Off.setCell (p := ⟨xb + 1, 7, none⟩) (Off.setCell (p := ⟨xb + 1, 6, none⟩) (Off.setCell (p := ⟨xb + 1, 5, none⟩) (Off.setCell (p := ⟨xb + 1, 4, none⟩) (Off.setCell (p := ⟨xb + 1, 3, none⟩) (Off.setCell (p := ⟨xb + 1, 2, none⟩) (Off.setCell (p := ⟨xb + 1, 1, none⟩) (Off.setCell (p := ⟨xb + 1, 0, none⟩) (Off.setCell (p := ⟨xb + 1 + 1, 3, none⟩) (Off.setCell (p := ⟨xb + 1 + 1, 2, none⟩) (Off.setCell (p := ⟨xb + 1 + 1, 1, none⟩) (Off.setCell (p := ⟨xb + 1 + 1, 0, none⟩) (Off.refl (fun k => k = xb + 1 ∨ k = xb + 1 + 1) w6) (.inl (.inr rfl)) _) (.inl (.inr rfl)) _) (.inl (.inr rfl)) _) (.inl (.inr rfl)) _) (.inl (.inl rfl)) _) (.inl (.inl rfl)) _) (.inl (.inl rfl)) _) (.inl (.inl rfl)) _) (.inl (.inl rfl)) _) (.inl (.inl rfl)) _) (.inl (.inl rfl)) _) (.inl (.inl rfl)) _) (.inl (.inl rfl)) _) (.inl (.inl rfl)) _)
      · exact Told1.behind HXB.out HZ3.out HK3.out HS.out HTT.out (Off.wide (S := fun k => k = xb + 1 ∨ k = xb + 1 + 1) (Off.setCell (p := ⟨xb + 1, 9, none⟩) (Off.setCell (p := ⟨xb + 1, 8, none⟩) (Off.setCell (p := ⟨xb + 1, 7, none⟩) (Off.setCell (p := ⟨xb + 1, 6, none⟩) (Off.setCell (p := ⟨xb + 1, 5, none⟩) (Off.setCell (p := ⟨xb + 1, 4, none⟩) (Off.setCell (p := ⟨xb + 1, 3, none⟩) (Off.setCell (p := ⟨xb + 1, 2, none⟩) (Off.setCell (p := ⟨xb + 1, 1, none⟩) (Off.setCell (p := ⟨xb + 1, 0, none⟩) (Off.setCell (p := ⟨xb + 1 + 1, 3, none⟩) (Off.setCell (p := ⟨xb + 1 + 1, 2, none⟩) (Off.setCell (p := ⟨xb + 1 + 1, 1, none⟩) (Off.setCell (p := ⟨xb + 1 + 1, 0, none⟩) (Off.refl (fun k => k = xb + 1 ∨ k = xb + 1 + 1) w6) (.inl (.inr rfl)) _) (.inl (.inr rfl)) _) (.inl (.inr rfl)) _) (.inl (.inr rfl)) _) (.inl (.inl rfl)) _) (.inl (.inl rfl)) _) (.inl (.inl rfl)) _) (.inl (.inl rfl)) _) (.inl (.inl rfl)) _) (.inl (.inl rfl)) _) (.inl (.inl rfl)) _) (.inl (.inl rfl)) _) (.inl (.inl rfl)) _) (.inl (.inl rfl)) _) fun k hk => by omega)
    · have hepx : epX c x = x.e := by unfold epX; rw [if_neg he]
      have he' : (x.e == 0) = false := by simpa using he
      rw [hepx] at HQ ⊢
      clear hepx
      generalize hR : runCu c x.nd x.c x.e x.rd x.t = R at HQ ⊢
      clear hR
      obtain ⟨x0, x1, x2, x3, x4, x5, x6⟩ := HLO.out w3 (Below.refl _ _)
      rw [h0] at x0
      have HW4 : Hid (((w.alloc (.cells #[.int .i64 0, .int .i64 x.nd, .int .i64 x.c, .int .i64 x.m, .int .u64 x.e, .bool x.rd, .string x.t] 34)).alloc (.cells #[.int .i64 0, .int .u64 0, .int .u64 0, .slice none 0 0, .bool false, .int .u64 0, .int .i64 0, .int .u64 0, .int .i64 0, .int .i64 0] 41)).alloc (.cells #[.int .i64 0, .int .u64 0, .int .u64 0, .slice none 0 0, .bool false, .int .u64 0, .int .i64 0, .int .u64 0, .int .i64 0, .int .i64 0] 41) = w3) := Lib.hid (by have z := HW3.out; rw [h0] at z; exact z)
      clear ha
      go_enter Tryz.func12, Tryz.ntmps12
      rw [h0]
      go_wp2_with fail
      rw [HW4.out, HXB.out]
      refine (HQ.out w3 (Below.refl _ _)).mono ?_
      rintro e w5 ⟨A, m, d, rfl, hr, ht⟩
      unfold rpV
      dsimp only
      go_upto_region 9 with fail
      obtain ⟨w6, hw6⟩ : ∃ u, w5.alloc (.cells #[.int .i64 R.1.e, .int .u64 R.1.ep, .int .u64 R.1.pl, .slice A m d] 73) = u := ⟨_, rfl⟩
      obtain ⟨pb, hpb⟩ : ∃ y, w5.heap.size = y := ⟨_, rfl⟩
      have k6 : Below w5.heap.size w5 w6 := hw6 ▸ kp_new w5 _
      have bn : w6.heap[pb]? = some (.cells #[.int .i64 R.1.e, .int .u64 R.1.ep, .int .u64 R.1.pl, .slice A m d] 73 (0, 0)) := by rw [← hw6, ← hpb]; exact heap_alloc_new w5 _
      have n0 := (cellsAt bn 0 rfl).1
      have n1 := (cellsAt bn 1 rfl).1
      have n2 := (cellsAt bn 2 rfl).1
      have n3 := (cellsAt bn 3 rfl).1
      rw [hw6, hpb]
      replace ht := ht.below k6
      replace hr := hr.next k6
      clear hw6 hpb bn
      have c5 : w6.heap[xb + 1 + 1]? = some toZ16 := (ht.off.block _ (by have := HZ3.out; omega) (fun e => by have := HS.out _ e; have := HXB.out; omega)).trans HB5.out
      have c4 : w6.heap[xb + 1]? = some toZ16 := (ht.off.block _ (by have := HZ3.out; omega) (fun e => by have := HS.out _ e; have := HXB.out; omega)).trans HB4.out
      have HTT := Lib.hid ht
      have HZ5 := Lib.hid ht.off.size
      have HC4 := Lib.hid c4
      have HC5 := Lib.hid c5
      clear ht
      unfold toZ16 at c4 c5
      have hlt5 : xb + 1 + 1 < w6.heap.size := (Array.getElem?_eq_some_iff.1 c5).1
      obtain ⟨u0, p0⟩ := cellsAt c5 0 (v := .int .i64 0) rfl
      obtain ⟨s0, q0⟩ := cellsAt c4 0 (v := .int .i64 0) rfl
      obtain ⟨u1, p1⟩ := cellsAt c5 1 (v := .int .u64 0) rfl
      obtain ⟨s1, q1⟩ := cellsAt c4 1 (v := .int .u64 0) rfl
      obtain ⟨u2, p2⟩ := cellsAt c5 2 (v := .int .u64 0) rfl
      obtain ⟨s2, q2⟩ := cellsAt c4 2 (v := .int .u64 0) rfl
      obtain ⟨u3, p3⟩ := cellsAt c5 3 (v := .slice none 0 0) rfl
      obtain ⟨s3, q3⟩ := cellsAt c4 3 (v := .slice none 0 0) rfl
      obtain ⟨u4, p4⟩ := cellsAt c5 4 (v := .bool false) rfl
      obtain ⟨s4, q4⟩ := cellsAt c4 4 (v := .bool false) rfl
      obtain ⟨u5, p5⟩ := cellsAt c5 5 (v := .int .u64 0) rfl
      obtain ⟨s5, q5⟩ := cellsAt c4 5 (v := .int .u64 0) rfl
      obtain ⟨u6, p6⟩ := cellsAt c5 6 (v := .int .i64 0) rfl
      obtain ⟨s6, q6⟩ := cellsAt c4 6 (v := .int .i64 0) rfl
      obtain ⟨u7, p7⟩ := cellsAt c5 7 (v := .int .u64 0) rfl
      obtain ⟨s7, q7⟩ := cellsAt c4 7 (v := .int .u64 0) rfl
      obtain ⟨u8, p8⟩ := cellsAt c5 8 (v := .int .i64 0) rfl
      obtain ⟨s8, q8⟩ := cellsAt c4 8 (v := .int .i64 0) rfl
      obtain ⟨u9, p9⟩ := cellsAt c5 9 (v := .int .i64 0) rfl
      obtain ⟨s9, q9⟩ := cellsAt c4 9 (v := .int .i64 0) rfl
      clear c5 c4
      have HR := Lib.hid hr
      clear hr
      go_wp2_with fail
      refine bodyPost_ret (v := toV16 ⟨R.1, false, noPr, 0, 0⟩ A m d) ?_ rfl ⟨A, m, d, rfl, ?_, ?_⟩
      · rw [results_cell1 rfl]
        unfold toV16 noPr
        go_simp
      · exact HR.out.past16 HC4.out HC5.out (Off.setCell (p := ⟨xb + 1, 9, none⟩) (Off.setCell (p := ⟨xb + 1, 8, none⟩) (Off.setCell (p := ⟨xb + 1, 7, none⟩) (Off.setCell (p := ⟨xb + 1, 6, none⟩) (Off.setCell (p := ⟨xb + 1, 5, none⟩) (Off.setCell (p := ⟨xb + 1, 4, none⟩) (Off.setCell (p := ⟨xb + 1, 3, none⟩) (Off.setCell (p := ⟨xb + 1, 2, none⟩) (Off.setCell (p := ⟨xb + 1, 1, none⟩) (Off.setCell (p := ⟨xb + 1, 0, none⟩) (Off.setCell (p := ⟨xb + 1 + 1, 3, none⟩) (Off.setCell (p := ⟨xb + 1 + 1, 2, none⟩) (Off.setCell (p := ⟨xb + 1 + 1, 1, none⟩) (Off.setCell (p := ⟨xb + 1 + 1, 0, none⟩) (Off.refl (fun k => k = xb + 1 ∨ k = xb + 1 + 1) w6) (.inl (.inr rfl)) _) (.inl (.inr rfl)) _) (.inl (.inr rfl)) _) (.inl (.inr rfl)) _) (.inl (.inl rfl)) _) (.inl (.inl rfl)) _) (.inl (.inl rfl)) _) (.inl (.inl rfl)) _) (.inl (.inl rfl)) _) (.inl (.inl rfl)) _) (.inl (.inl rfl)) _) (.inl (.inl rfl)) _) (.inl (.inl rfl)) _) (.inl (.inl rfl)) _)
      · exact Told1.behind HXB.out HZ3.out HK3.out HS.out HTT.out (Off.wide (S := fun k => k = xb + 1 ∨ k = xb + 1 + 1) (Off.setCell (p := ⟨xb + 1, 9, none⟩) (Off.setCell (p := ⟨xb + 1, 8, none⟩) (Off.setCell (p := ⟨xb + 1, 7, none⟩) (Off.setCell (p := ⟨xb + 1, 6, none⟩) (Off.setCell (p := ⟨xb + 1, 5, none⟩) (Off.setCell (p := ⟨xb + 1, 4, none⟩) (Off.setCell (p := ⟨xb + 1, 3, none⟩) (Off.setCell (p := ⟨xb + 1, 2, none⟩) (Off.setCell (p := ⟨xb + 1, 1, none⟩) (Off.setCell (p := ⟨xb + 1, 0, none⟩) (Off.setCell (p := ⟨xb + 1 + 1, 3, none⟩) (Off.setCell (p := ⟨xb + 1 + 1, 2, none⟩) (Off.setCell (p := ⟨xb + 1 + 1, 1, none⟩) (Off.setCell (p := ⟨xb + 1 + 1, 0, none⟩) (Off.refl (fun k => k = xb + 1 ∨ k = xb + 1 + 1) w6) (.inl (.inr rfl)) _) (.inl (.inr rfl)) _) (.inl (.inr rfl)) _) (.inl (.inr rfl)) _) (.inl (.inl rfl)) _) (.inl (.inl rfl)) _) (.inl (.inl rfl)) _) (.inl (.inl rfl)) _) (.inl (.inl rfl)) _) (.inl (.inl rfl)) _) (.inl (.inl rfl)) _) (.inl (.inl rfl)) _) (.inl (.inl rfl)) _) (.inl (.inl rfl)) _) fun k hk => by omega)
  · have ha : actCu c x = (⟨noRp, false, noPr, 0, (cpyCu c x.nd x.m).1⟩, (cpyCu c x.nd x.m).2) := by
      unfold actCu
      rw [if_neg h0, if_neg h1, if_neg h2]
    rw [ha]
    have HQ := Lib.hid (C.copy b c k x.nd x.m S w3 h3 hI hk hx.nd hx.m)
    obtain ⟨x0, x1, x2, x3, x4, x5, x6⟩ := HLO.out w3 (Below.refl _ _)
    have g0 : (x.d == 0) = false := by simpa using h0
    have g1 : (x.d == 1) = false := by simpa using h1
    have g2 : (x.d == 2) = false := by simpa using h2
    clear ha
    go_enter Tryz.func12, Tryz.ntmps12
    go_wp2_with fail
    rw [HW3.out, HXB.out]
    refine HQ.out.mono ?_
    rintro e w5 ⟨rfl, ht⟩
    replace ht := ht.none
    have c5 : w5.heap[xb + 1 + 1]? = some toZ16 := (ht.off.block _ (by have := HZ3.out; omega) (fun e => by have := HS.out _ e; have := HXB.out; omega)).trans HB5.out
    have c4 : w5.heap[xb + 1]? = some toZ16 := (ht.off.block _ (by have := HZ3.out; omega) (fun e => by have := HS.out _ e; have := HXB.out; omega)).trans HB4.out
    have HTT := Lib.hid ht
    have HZ5 := Lib.hid ht.off.size
    have HC4 := Lib.hid c4
    have HC5 := Lib.hid c5
    clear ht
    unfold toZ16 at c4 c5
    have hlt5 : xb + 1 + 1 < w5.heap.size := (Array.getElem?_eq_some_iff.1 c5).1
    obtain ⟨u0, p0⟩ := cellsAt c5 0 (v := .int .i64 0) rfl
    obtain ⟨s0, q0⟩ := cellsAt c4 0 (v := .int .i64 0) rfl
    obtain ⟨u1, p1⟩ := cellsAt c5 1 (v := .int .u64 0) rfl
    obtain ⟨s1, q1⟩ := cellsAt c4 1 (v := .int .u64 0) rfl
    obtain ⟨u2, p2⟩ := cellsAt c5 2 (v := .int .u64 0) rfl
    obtain ⟨s2, q2⟩ := cellsAt c4 2 (v := .int .u64 0) rfl
    obtain ⟨u3, p3⟩ := cellsAt c5 3 (v := .slice none 0 0) rfl
    obtain ⟨s3, q3⟩ := cellsAt c4 3 (v := .slice none 0 0) rfl
    obtain ⟨u4, p4⟩ := cellsAt c5 4 (v := .bool false) rfl
    obtain ⟨s4, q4⟩ := cellsAt c4 4 (v := .bool false) rfl
    obtain ⟨u5, p5⟩ := cellsAt c5 5 (v := .int .u64 0) rfl
    obtain ⟨s5, q5⟩ := cellsAt c4 5 (v := .int .u64 0) rfl
    obtain ⟨u6, p6⟩ := cellsAt c5 6 (v := .int .i64 0) rfl
    obtain ⟨s6, q6⟩ := cellsAt c4 6 (v := .int .i64 0) rfl
    obtain ⟨u7, p7⟩ := cellsAt c5 7 (v := .int .u64 0) rfl
    obtain ⟨s7, q7⟩ := cellsAt c4 7 (v := .int .u64 0) rfl
    obtain ⟨u8, p8⟩ := cellsAt c5 8 (v := .int .i64 0) rfl
    obtain ⟨s8, q8⟩ := cellsAt c4 8 (v := .int .i64 0) rfl
    obtain ⟨u9, p9⟩ := cellsAt c5 9 (v := .int .i64 0) rfl
    obtain ⟨s9, q9⟩ := cellsAt c4 9 (v := .int .i64 0) rfl
    clear c5 c4
    go_wp2_with fail
    refine bodyPost_ret (v := toV16 ⟨noRp, false, noPr, 0, (cpyCu c x.nd x.m).1⟩ none 0 0) ?_ rfl ⟨none, 0, 0, rfl, ?_, ?_⟩
    · rw [results_cell1 rfl]
      unfold toV16 noRp noPr
      go_simp
    · exact XR.nil _
    · exact Told1.behind HXB.out HZ3.out HK3.out HS.out HTT.out (Off.wide (S := fun k => k = xb + 1 ∨ k = xb + 1 + 1) (Off.setCell (p := ⟨xb + 1, 9, none⟩) (Off.setCell (p := ⟨xb + 1, 8, none⟩) (Off.setCell (p := ⟨xb + 1, 7, none⟩) (Off.setCell (p := ⟨xb + 1, 6, none⟩) (Off.setCell (p := ⟨xb + 1, 5, none⟩) (Off.setCell (p := ⟨xb + 1, 4, none⟩) (Off.setCell (p := ⟨xb + 1, 3, none⟩) (Off.setCell (p := ⟨xb + 1, 2, none⟩) (Off.setCell (p := ⟨xb + 1, 1, none⟩) (Off.setCell (p := ⟨xb + 1, 0, none⟩) (Off.setCell (p := ⟨xb + 1 + 1, 9, none⟩) (Off.refl (fun k => k = xb + 1 ∨ k = xb + 1 + 1) w5) (.inl (.inr rfl)) _) (.inl (.inl rfl)) _) (.inl (.inl rfl)) _) (.inl (.inl rfl)) _) (.inl (.inl rfl)) _) (.inl (.inl rfl)) _) (.inl (.inl rfl)) _) (.inl (.inl rfl)) _) (.inl (.inl rfl)) _) (.inl (.inl rfl)) _) (.inl (.inl rfl)) _) fun k hk => by omega)
end
end

/- Layer 15: where a region stands in which two do an act, each once, and what they tell is laid into new blocks. -/
section
open Go.RowKit
set_option maxRecDepth 100000

section
variable {X : Nat → Nd → Thing} {w : World}
end
theorem flat2_len : ∀ (l : List Kv), (l.flatMap fun p => [p.k, p.v]).length = l.length * 2
  | [] => rfl
  | x :: r => by
    have := flat2_len r
    simp only [List.flatMap_cons, List.length_append, List.length_cons, List.length_nil] at this ⊢
    omega
theorem reads15_short (d : Int) (k : ByteArray) (l : List Kv) : (readsF d k l).length ≤ 20 := by
  unfold readsF
  split
  · split <;> simp
  split
  · unfold firstsF
    rw [flat2_len, List.length_take]
    omega
  · simp
section
variable {W : World} {X0 X1 Y0 Y1 : Thing} {ps : List (Nat × (Nat → Nat))} {t6 : Nat} {act : Obj} {tt : To15} {f g p q : Bool} {va vb wa wb : Value} {l : List (Nat × Obj)} {xs : List (Option Addr × Nat × List ByteArray)} {u u' : World} {A : Option Addr} {m d : Nat}
variable {sa sb pa pb : Nat} {L : Nat → Bool} {T : Nat → Value}
end
end

/- Layer 16: where a law's walk stands: the moves of a cluster (XNoF's St15). -/
section
open Go.RowKit
set_option maxRecDepth 100000

section
variable {X : Nat → Cu → Thing} {w0 w : World} {Y : Thing} {b k : Nat} {c : Cu} {ps : List (Nat × (Nat → Nat))} {l : List (Nat × Obj)} {rs : List (Option Addr × Nat × List Lg)} {xs : List (Option Addr × Nat × List ByteArray)}
theorem St15.cact (h : St15 w0 (X b c) Y ps l rs xs w) (C : ClusterC X) (hL : Lw w0) {x : Ac7} (hI : CuI k c) (hk : k ≤ 800) (hx : x.Fine) (ht : Sm x.t) :
    Calls Tryz.prog 12 #[.pointer (some ⟨b, 0, none⟩), .agg #[.int .i64 x.d, .int .i64 x.nd, .int .i64 x.c, .int .i64 x.m, .int .u64 x.e, .bool x.rd, .string x.t]] w fun e w' => ∃ (A' : Option Addr) (m' d' : Nat), e = .returned (toV16 (actCu c x).1 A' m' d') ∧ St15 w0 (X b (actCu c x).2) Y ps l rs ((A', m', (actCu c x).1.r.ts) :: xs) w' :=
  h.toldX (X' := X b (actCu c x).2) (Q := fun e A' m' d' => e = .returned (toV16 (actCu c x).1 A' m' d')) fun _ hS => (ldo16_ok C (hL.next h.low) x hS hI hk hx ht).mono fun _ _ ⟨A', m', d', he, hr, ht⟩ => ⟨A', m', d', ⟨he, hr⟩, ht⟩
theorem St15.crun (h : St15 w0 (X b c) Y ps l rs xs w) (C : ClusterC X) (hL : Lw w0) (hI : CuI k c) (hk : k ≤ 800) (n cn e : Int) (rd : Bool) (s : ByteArray) (hs : Sm s) (hn : I64n n) (hc : I64n cn) (he : U64n e) :
    Calls Tryz.prog 27 #[.pointer (some ⟨b, 0, none⟩), .int .i64 n, .int .i64 cn, .int .u64 e, .bool rd, .string s] w fun e' w' => ∃ A m d, e' = .returned (rpV (runCu c n cn e rd s).1 A m d) ∧ St15 w0 (X b (runCu c n cn e rd s).2) Y ps l rs ((A, m, (runCu c n cn e rd s).1.ts) :: xs) w' :=
  h.toldX (Q := fun e' A m d => e' = .returned (rpV (runCu c n cn e rd s).1 A m d)) fun S hS => (C.run b c k n cn e rd s S w (hL.next h.low) hS hI hk hs hn hc he).mono fun _ _ ⟨A, m, d, h1, h2, h3⟩ => ⟨A, m, d, ⟨h1, h2⟩, h3⟩
theorem St15.clog (h : St15 w0 (X b c) Y ps l rs xs w) (C : ClusterC X) (hI : CuI k c) (n : Int) (hn : I64n n) :
    Calls Tryz.prog 21 #[.pointer (some ⟨b, 0, none⟩), .int .i64 n] w fun e w' => ∃ A m d, (e = .returned (.slice A m d) ∧ m ≤ d) ∧ St15 w0 (X b c) Y ps l ((A, m, lgCu c n) :: rs) xs w' :=
  h.toldL (Q := fun e A m d => e = .returned (.slice A m d) ∧ m ≤ d) fun S hS => (C.log b c k n S w hS hI hn).mono fun _ _ ⟨A, m, d, h1, h2, h3, h4⟩ => ⟨A, m, d, ⟨⟨h1, h2⟩, h3⟩, h4⟩
theorem St15.cep (h : St15 w0 (X b c) Y ps l rs xs w) (C : ClusterC X) (hI : CuI k c) (n : Int) (hn : I64n n) :
    Calls Tryz.prog 17 #[.pointer (some ⟨b, 0, none⟩), .int .i64 n] w fun e w' => e = .returned (.int .u64 (epCu c n)) ∧ St15 w0 (X b c) Y ps l rs xs w' :=
  h.asks (Q := fun e _ => e = .returned (.int .u64 (epCu c n))) fun S hS => C.epoch b c k n S w hS hI hn
theorem St15.cld (h : St15 w0 (X b c) Y ps l rs xs w) (C : ClusterC X) (hI : CuI k c) (n : Int) (hn : I64n n) :
    Calls Tryz.prog 18 #[.pointer (some ⟨b, 0, none⟩), .int .i64 n] w fun e w' => e = .returned (.bool (ldCu c n)) ∧ St15 w0 (X b c) Y ps l rs xs w' :=
  h.asks (Q := fun e _ => e = .returned (.bool (ldCu c n))) fun S hS => C.leads b c k n S w hS hI hn
theorem St15.cnew (h : St15 w0 (X b c) Y ps l rs xs w) (C : ClusterC X) (hI : CuI k c) :
    Calls Tryz.prog 15 #[.pointer (some ⟨b, 0, none⟩)] w fun e w' => e = .returned (.agg #[.int .u64 c.pm.e, .int .i64 c.pm.p, .int .u64 c.pm.c]) ∧ St15 w0 (X b c) Y ps l rs xs w' :=
  h.asks (Q := fun e _ => e = .returned (.agg #[.int .u64 c.pm.e, .int .i64 c.pm.p, .int .u64 c.pm.c])) fun S hS => C.newest b c k S w hS hI
theorem St15.cmany (h : St15 w0 (X b c) Y ps l rs xs w) (C : ClusterC X) (hI : CuI k c) :
    Calls Tryz.prog 16 #[.pointer (some ⟨b, 0, none⟩)] w fun e w' => e = .returned (.int .i64 c.n) ∧ St15 w0 (X b c) Y ps l rs xs w' :=
  h.asks (Q := fun e _ => e = .returned (.int .i64 c.n)) fun S hS => C.nodes b c k S w hS hI
theorem St15.clag (h : St15 w0 (X b c) Y ps l rs xs w) (C : ClusterC X) (hI : CuI k c) (n : Int) (hn : I64n n) :
    Calls Tryz.prog 22 #[.pointer (some ⟨b, 0, none⟩), .int .i64 n] w fun e w' => e = .returned (.int .u64 (lagCu c n)) ∧ St15 w0 (X b c) Y ps l rs xs w' :=
  h.left (Q := fun e _ => e = .returned (.int .u64 (lagCu c n))) fun S hS => C.lag b c k n S w hS hI hn
theorem St15.ccopy (h : St15 w0 (X b c) Y ps l rs xs w) (C : ClusterC X) (hI : CuI k c) (hk : k ≤ 800) (n m : Int) (hn : I64n n) (hm : I64n m) :
    Calls Tryz.prog 29 #[.pointer (some ⟨b, 0, none⟩), .int .i64 n, .int .i64 m] w fun e w' => e = .returned (.int .i64 (cpyCu c n m).1) ∧ St15 w0 (X b (cpyCu c n m).2) Y ps l rs xs w' :=
  h.left (Q := fun e _ => e = .returned (.int .i64 (cpyCu c n m).1)) fun S hS => C.copy b c k n m S w hS hI hk hn hm
theorem St15.cpro (h : St15 w0 (X b c) Y ps l rs xs w) (C : ClusterC X) (hI : CuI k c) (hk : k ≤ 800) (n : Int) (hn : I64n n) :
    Calls Tryz.prog 30 #[.pointer (some ⟨b, 0, none⟩), .int .i64 n] w fun e w' => e = .returned (.tuple #[.agg #[.int .u64 (proCu c n).1.1.e, .int .i64 (proCu c n).1.1.p, .int .u64 (proCu c n).1.1.c], .int .i64 (proCu c n).1.2]) ∧ St15 w0 (X b (proCu c n).2) Y ps l rs xs w' :=
  h.left (Q := fun e _ => e = .returned (.tuple #[.agg #[.int .u64 (proCu c n).1.1.e, .int .i64 (proCu c n).1.1.p, .int .u64 (proCu c n).1.1.c], .int .i64 (proCu c n).1.2])) fun S hS => C.promote b c k n S w hS hI hk hn
theorem St15.ccls (h : St15 w0 (X b c) Y ps l rs xs w) (C : ClusterC X) (hI : CuI k c) (hk : k ≤ 800) (n cn : Int) (hn : I64n n) (hc : I64n cn) :
    Calls Tryz.prog 31 #[.pointer (some ⟨b, 0, none⟩), .int .i64 n, .int .i64 cn] w fun e w' => e = .returned (.bool (clsCu c n cn).1) ∧ St15 w0 (X b (clsCu c n cn).2) Y ps l rs xs w' :=
  h.left (Q := fun e _ => e = .returned (.bool (clsCu c n cn).1)) fun S hS => C.close b c k n cn S w hS hI hk hn hc
/-- rows that are no more asked for -/
theorem St15.bare (h : St15 w0 (X b c) Y ps l rs xs w) : St15 w0 (X b c) Y ps l [] [] w := h.less (fun _ h => h) (fun _ h => h) (fun _ h => nomatch h) (fun _ h => nomatch h)
end
/-- one cluster that a call made itself -/
theorem St15.alone {w0 w w' : World} {X : Thing} {S : Nat → Prop} (hl : Below w0.heap.size w0 w) (hx : X.p S w') (hS : ∀ k, S k → w.heap.size ≤ k) (hb : Below w.heap.size w w') : St15 w0 X T0 [] [] [] [] w' :=
  St15.make ((Solo.make hl hx hS hb).duo (T0.none w') (fun _ h => h.elim) (Below.refl _ _))
end

/- Layer 16, plain: what the law's own calls say. -/
section
open Go.RowKit
set_option maxRecDepth 100000

theorem lex16_foo : lexF [102, 111, 111] = some [(1, [70, 79, 79])] := by
  rw [lexF_tok (k := 1) (t := [70, 79, 79]) (n := 3) (by simp) (by kernel_rfl) (by decide)]
  simp only [List.drop_succ_cons, List.drop_zero]
  rw [lexF_nil]
  rfl
theorem lex16_bar : lexF [98, 97, 114] = some [(1, [66, 65, 82])] := by
  rw [lexF_tok (k := 1) (t := [66, 65, 82]) (n := 3) (by simp) (by kernel_rfl) (by decide)]
  simp only [List.drop_succ_cons, List.drop_zero]
  rw [lexF_nil]
  rfl
def tx16_foo : ByteArray := ⟨#[102, 111, 111]⟩
def tx16_bar : ByteArray := ⟨#[98, 97, 114]⟩
theorem cls16_foo : clsT tx16_foo = 7 := by
  unfold clsT tx16_foo
  rw [classA_lex lex16_foo (by decide)]
  kernel_rfl
theorem cls16_bar : clsT tx16_bar = 7 := by
  unfold clsT tx16_bar
  rw [classA_lex lex16_bar (by decide)]
  kernel_rfl
/-- the law's cluster, call by call -/
def cu16_0 : Cu := newCu 2
def cu16_1 : Cu := cu16_0.put 0 ⟨1, true, [⟨1, tx16_foo⟩], []⟩
def cu16_2 : Cu := cu16_1.put 1 ⟨1, false, [⟨1, tx16_foo⟩], []⟩
def cu16_3 : Cu := cu16_2.put 0 ⟨1, true, [⟨1, tx16_foo⟩, ⟨1, tx16_bar⟩], []⟩
def cu16_4 : Cu := ⟨2, upd3 cu16_3.ns 1 ⟨2, true, [⟨1, tx16_foo⟩], []⟩, ⟨2, 1, 1⟩⟩
theorem cu16_foo : runCu cu16_0 0 1 1 false tx16_foo = (⟨0, 1, 1, []⟩, cu16_1) := by
  unfold runCu
  rw [if_neg (by decide)]
  show ((runNd ⟨1, true, [], []⟩ 1 1 false tx16_foo).1, cu16_0.put 0 (runNd ⟨1, true, [], []⟩ 1 1 false tx16_foo).2) = _
  unfold runNd whyNd
  rw [cls16_foo]
  rfl
theorem cu16_lag : lagCu cu16_1 1 = 1 := rfl
theorem cu16_cpy : cpyCu cu16_1 1 5 = (1, cu16_2) := rfl
theorem cu16_bar : runCu cu16_2 0 1 1 false tx16_bar = (⟨0, 1, 2, []⟩, cu16_3) := by
  unfold runCu
  rw [if_neg (by decide)]
  show ((runNd ⟨1, true, [⟨1, tx16_foo⟩], []⟩ 1 1 false tx16_bar).1, cu16_2.put 0 (runNd ⟨1, true, [⟨1, tx16_foo⟩], []⟩ 1 1 false tx16_bar).2) = _
  unfold runNd whyNd
  rw [cls16_bar]
  rfl
theorem cu16_pro : proCu cu16_3 1 = ((⟨2, 1, 1⟩, 0), cu16_4) := rfl
theorem cu16_pro1 : proCu cu16_4 1 = ((⟨0, 0, 0⟩, 7), cu16_4) := rfl
theorem cu16_pro2 : proCu cu16_4 2 = ((⟨0, 0, 0⟩, 6), cu16_4) := rfl
theorem cu16_none (s : ByteArray) : runCu cu16_4 5 1 1 true s = (⟨6, 0, 0, []⟩, cu16_4) := rfl
theorem cu16_cls0 : clsCu cu16_4 0 1 = (false, cu16_4) := by
  unfold clsCu
  rw [if_neg (by decide)]
  refine Prod.ext rfl ?_
  show (⟨2, upd3 cu16_4.ns 0 (cu16_4.ns 0), ⟨2, 1, 1⟩⟩ : Cu) = cu16_4
  have h : upd3 cu16_4.ns 0 (cu16_4.ns 0) = cu16_4.ns := funext fun j => by
    unfold upd3
    split
    · rename_i e; rw [e]
    · rfl
  rw [h]
  rfl
theorem cu16_i0 : CuI 0 cu16_0 := CuI.new (by decide) (by decide)
theorem cu16_i1 : CuI 1 cu16_1 := by
  have h := cu16_i0.run (n := 0) (cn := 1) (e := 1) (rd := false) (s := tx16_foo) (by unfold Sm tx16_foo; decide) ⟨by decide, by decide⟩
  rwa [cu16_foo] at h
theorem cu16_i2 : CuI 2 cu16_2 := by
  have h := cu16_i1.copy 1 5
  rwa [cu16_cpy] at h
theorem cu16_i3 : CuI 3 cu16_3 := by
  have h := cu16_i2.run (n := 0) (cn := 1) (e := 1) (rd := false) (s := tx16_bar) (by unfold Sm tx16_bar; decide) ⟨by decide, by decide⟩
  rwa [cu16_bar] at h
theorem cu16_i4 : CuI 4 cu16_4 := by
  have h := cu16_i3.promote (by decide) 1
  rwa [cu16_pro] at h
end
end Go.Proofs.YtdhnpmagapbmhaaGreatDoor
