/-
  Contracts and plain functions that the law stands on, part 4 of 5.
-/
import Derived.Test.YtkbaljdpnopbmaaQF3
import Derived.Deep.AppendSrc
import Derived.Sort.QuietIn
import Derived.ProofKit
import Derived.OpenShut
import Derived.JoinedCond
import Derived.Deep.Slices
import Derived.Lib.SmallJoins
import Derived.SizedLaws
namespace Go.Proofs.Ytkbaljdpnopbmaa
/- The project's layer 10: open: contract. -/
section
open Go.RowKit
set_option maxRecDepth 100000

/-- one behind a row of one-cell values: where it lies then -/
theorem run_append_one {P : Program} {w : World} (t ty e : TypeId) (i : TypeInfo) (z : Value) (bytes : Nat) (ht : P.underlying t = some (.slice e)) (hi : P.info? e = some i) (hz : i.zero = some z)
    (hsize : i.size = 1) (hby : i.bytes = bytes) (hzs : z.cells.size = 1) {A : Option Addr} {n c : Nat} {xs : List Value} (hown : w.ownsRow 0 e 1 (.slice A n c) n xs) (ad : Addr) (c1 : Nat) (y : Value) (hy : w.cell? ad = some y) (h1 : y.oneCell' = true) (hn : n + 1 ≤ 1000) (hbytes : bytes ≤ 1000) :
    ∃ A' c' w', (Builtin.append_ #[t, t] ty #[.slice A n c, .slice (some ad) 1 c1]).run P w = .ok (.slice A' (n + 1) c') w' ∧ w'.ownsRow 0 e 1 (.slice A' (n + 1) c') (n + 1) (xs ++ [y]) ∧ w.grownBy w' (Value.slice A n c).ownBlock ∧
      ((Value.slice A' (n + 1) c').ownBlock = (Value.slice A n c).ownBlock ∨ ∃ g, (Value.slice A' (n + 1) c').ownBlock = some g ∧ w.heap.size ≤ g) := by
  have hcell : ∀ j u, [y][j]? = some u → w.cell? (ad.add j) = some u := fun j u hu => by
    match j, hu with
    | 0, hu =>
      rw [show ad.add 0 = ad from by unfold Addr.add; split <;> simp_all, hy]
      simpa using hu
  have hrd : Rd w (ad.block + 1) (some ad) [y] := .inr ⟨ad, rfl, Nat.lt_succ_self _, hcell⟩
  have hb1 : (n + 1) * bytes ≤ 140737488355328 := by
    have : (n + 1) * bytes ≤ 1000 * 1000 := Nat.mul_le_mul hn hbytes
    omega
  have ho1 : ∀ u ∈ [y], u.oneCell' = true := by simpa using h1
  obtain ⟨v', w', hr, h2, h3⟩ := run_append_rds (P := P) (w := w) 0 t ty e i z 1 bytes ht hi hz hsize hby hzs (by omega) (.slice A n c) n xs hown (ad.block + 1) (some ad) 1 c1 [y] rfl hrd ho1 (by unfold maxLen; omega) hb1 (Nat.zero_le _)
  obtain ⟨A', c', rfl, _, _⟩ := own_form_s h2
  refine ⟨A', c', w', hr, h2, h3, ?_⟩
  rcases hown.2 with ⟨h4, h5⟩ | ⟨g, cap, cur, h4, hbg, hg, hnc, hcm, hcs, htake⟩
  · injection h4 with e1 e2 e3
    subst e1 e2 e3
    obtain ⟨v2, w2, hr2, h22, _⟩ := run_append_rds (P := P) (w := w) w.heap.size t ty e i z 1 bytes ht hi hz hsize hby hzs (by omega) (.slice none 0 0) 0 xs ⟨hown.1, .inl ⟨rfl, rfl⟩⟩ (ad.block + 1) (some ad) 1 c1 [y] rfl hrd ho1 (by unfold maxLen; omega) hb1 (Nat.le_refl _)
    rw [hr] at hr2
    injection hr2 with e1 e2
    subst e1
    cases hq : (Value.slice A' (0 + 1) c').ownBlock with
    | none => exact .inl rfl
    | some g => exact .inr ⟨g, rfl, (h22.lt g hq).1⟩
  · injection h4 with e1 _ e3
    subst e1 e3
    have hs : Src P i.size t (.slice (some ad) 1 c1) 1 [y] w := Src.ofSlice w ht ad 1 c1 _ (by simp [hsize]) hcell ho1
    have hcs' : cur.size = c := by simpa using hcs
    by_cases hroom : n + 1 ≤ c
    · have hr2 := run_append_room_src (P := P) w t t ty e i ht hi g 0 n c _ 1 [y] hs hroom (fun j hj => by
          obtain rfl : j = 0 := by simpa using hj
          rw [hsize, show 0 + n * 1 + 0 = n by omega, cell_of_row _ _ n cur e (0, 0) hg, Array.getElem?_eq_getElem (by omega)]
          rfl) (fun j hj => frozen_of_row w g _ cur e hg)
      rw [hr] at hr2
      injection hr2 with e1 _
      injection e1 with e1 _ _
      subst e1
      exact .inl rfl
    · have hxl : xs.length = n := by simpa using hown.1
      have hold : (Builtin.firstCells i.size n (.slice (some ⟨g, 0, none⟩) n c)).run P w.drew = .ok xs.toArray w.drew := run_firstCells_some _ _ _ _ _ _ _ (by rw [hxl, hsize]; omega) fun j u hu => hown.cells (g := g) rfl j u hu
      have hr2 := run_append_grow_src (P := P) w t t ty e i z ht hi hz (some ⟨g, 0, none⟩) n c xs hold _ 1 [y] hs (by omega) (by omega) (growslice_fits (by omega) (by rw [hby]; exact hb1))
      rw [hr] at hr2
      injection hr2 with e1 _
      injection e1 with e1 _ _
      subst e1
      exact .inr ⟨_, rfl, Nat.le_refl _⟩
theorem wpList_append_run {P : Program} {ops : Array Oper} {rest : List Oper} {o : Oper} {a : Act} {w : World} {Q : Exit → Act → World → Prop} (hw : Region.wanted o (yielded ops a.tmps) = true) (s x : Operand) (t : TypeId)
    (ho : o.op = .call { callee := .builtin .append, args := #[s, x], argTypes := #[t, t] }) (v y : Value) (hs : a.eval s = v) (hx : a.eval x = y) {v3 : Value} {w3 : World}
    (hrun : (Builtin.append_ #[t, t] o.type #[v, y]).run P w = .ok v3 w3) (h : wpList P ops Q rest (a.put o.dst v3) w3) : wpList P ops Q (o :: rest) a w :=
  wpList_step fun _ hK => by
    rw [if_pos hw]
    unfold Oper.wp execOp
    simp only [ho, resolve, invoke, builtin, Sem.run_bind, Sem.run_pure, Result.andThen_ok, List.map_toArray, List.map_cons, List.map_nil, hs, hx, hrun]
    exact hK _ _ h
theorem linkinfo : (Try.prog.info? 66).map (fun i => (i.zero, i.size, i.bytes)) = some (some (.pointer none), 1, 8) := by kernel_rfl
section
variable {b : Nat} {mo idl m : Int} {k : Nat} {p : Pl} {S : Nat → Prop} {w : World}
/-- what open leaves -/
structure Opened (b : Nat) (mo idl m : Int) (p p' : Pl) (S : Nat → Prop) (r : Lr) (w w' : World) : Prop where
  at_ : ∃ rs A n c rb SR S', PPm b mo idl m p' (rs ++ [r]) A n c rb SR S' w' ∧ (∀ k, S' k → S k ∨ w.heap.size ≤ k)
  off : Off S w w'
/-- a new link, behind all -/
theorem PPm.gave {rs : List Lr} {A A' : Option Addr} {n c c' rb : Nat} {SR : Nat → Prop} {w4 w5 : World} {x : Hd} {r : Lr} (h : PPm b mo idl m p rs A n c rb SR S w) (hx : r.h = x)
    (h4 : Below w.heap.size w w4) (hr : LK w4 r) (hrl : ∀ k, lkS r k → w.heap.size ≤ k)
    (ho : w5.ownsRow 0 66 1 (.slice A' (n + 1) c') (n + 1) (rs.map lkV ++ [lkV r])) (hg : w4.grownBy w5 (Value.slice A n c).ownBlock) (hq : (Value.slice A' (n + 1) c').ownBlock = (Value.slice A n c).ownBlock ∨ ∃ g, (Value.slice A' (n + 1) c').ownBlock = some g ∧ w4.heap.size ≤ g)
    (hfew : (p.l.length : Int) < mo) : Opened b mo idl m p { p with l := p.l ++ [x] } S r w (w5.setCell ⟨b, 0, none⟩ (.slice A' (n + 1) c')) := by
  have hlt := h.lt
  have h4z := h4.size
  have hgz := hg.size
  have hw4 : ∀ k, k < w.heap.size → w4.heap[k]? = w.heap[k]? := fun k hk => h4.block k hk
  have hrow : ∀ k, (Value.slice A n c).ownBlock = some k → S k := fun k hk => h.sl k (.inl hk)
  have hw5 : ∀ k, k < w4.heap.size → (Value.slice A n c).ownBlock ≠ some k → w5.heap[k]? = w4.heap[k]? := fun k hk hn => hg.block k hk fun e => hn e.symm
  have hset : ∀ k, k ≠ b → (w5.setCell ⟨b, 0, none⟩ (.slice A' (n + 1) c')).heap[k]? = w5.heap[k]? := fun k hk => Below.heap_setCell _ _ _ _ fun e => hk (by first | exact e | exact e.symm)
  have hsz : (w5.setCell ⟨b, 0, none⟩ (.slice A' (n + 1) c')).heap.size = w5.heap.size := by rw [size_setCell]
  have hold : ∀ k, k < w.heap.size → k ≠ b → (Value.slice A n c).ownBlock ≠ some k → (w5.setCell ⟨b, 0, none⟩ (.slice A' (n + 1) c')).heap[k]? = w.heap[k]? := fun k hk hb hn => (hset k hb).trans ((hw5 k (by omega) hn).trans (hw4 k hk))
  have hnew : ∀ k, (Value.slice A' (n + 1) c').ownBlock = some k → (Value.slice A n c).ownBlock = some k ∨ w4.heap.size ≤ k := fun k hk => by
    rcases hq with e | ⟨g, e, hge⟩
    · exact .inl (e ▸ hk)
    · rw [e] at hk
      injection hk with hk
      exact .inr (hk ▸ hge)
  have hnb : ∀ k, (Value.slice A' (n + 1) c').ownBlock = some k → k ≠ b := fun k hk e => by
    rcases hnew k hk with e2 | e2
    · exact h.al (.inl (e ▸ e2))
    · have := hlt b h.sb
      omega
  have hrlt : ∀ k, lkS r k → k < w4.heap.size := hr.lt
  have hrb : ∀ k, lkS r k → k ≠ b := fun k hk e => by have := hrl k hk; have := hlt b h.sb; omega
  have hrn : ∀ k, lkS r k → (Value.slice A n c).ownBlock ≠ some k := fun k hk e => by have := hrl k hk; have := hlt k (hrow k e); omega
  have hll : LL (w5.setCell ⟨b, 0, none⟩ (.slice A' (n + 1) c')) A' (n + 1) c' (rs ++ [r]) := by
    refine ⟨?_, fun q hq2 => ?_, ?_, fun q hq2 k hk e => ?_⟩
    · rw [List.map_append]
      exact own_keep ho fun g hg2 => hset g (hnb g hg2)
    · rcases List.mem_append.1 hq2 with hq2 | hq2
      · have hk := h.hl.lk q hq2
        exact hk.keep (fun k hk2 => hold k (hk.lt k hk2) (fun e => h.al (.inr ⟨q, hq2, e ▸ hk2⟩)) (h.hl.ap q hq2 k hk2)) (by rw [hsz]; omega)
      · obtain rfl := List.mem_singleton.1 hq2
        exact hr.keep (fun k hk2 => (hset k (hrb k hk2)).trans (hw5 k (hrlt k hk2) (hrn k hk2))) (by rw [hsz]; omega)
    · rw [List.map_append, List.pairwise_append]
      refine ⟨h.hl.nd, List.pairwise_singleton _ _, fun x hx2 y hy2 => ?_⟩
      obtain ⟨q, hq2, rfl⟩ := List.mem_map.1 hx2
      obtain rfl := List.mem_singleton.1 hy2
      have l1 := hlt _ (h.sl _ (.inr ⟨q, hq2, .inl rfl⟩))
      have l2 := hlt _ (h.sl _ (.inr ⟨q, hq2, .inr rfl⟩))
      have l3 := hrl _ (.inl rfl)
      have l4 := hrl _ (.inr rfl)
      simp only [apartK, Lr.key]
      refine ⟨?_, ?_, ?_, ?_⟩ <;> omega
    · rcases List.mem_append.1 hq2 with hq2 | hq2
      · rcases hnew k e with e2 | e2
        · exact h.hl.ap q hq2 k hk e2
        · have := (h.hl.lk q hq2).lt k hk
          omega
      · obtain rfl := List.mem_singleton.1 hq2
        rcases hnew k e with e2 | e2
        · exact hrn k hk e2
        · have := hrlt k hk
          omega
  have hb5 : w5.heap[b]? = w.heap[b]? := (hw5 b (by have := hlt b h.sb; omega) (fun e => h.al (.inl e))).trans (hw4 b (hlt b h.sb))
  refine ⟨⟨rs, A', n + 1, c', rb, SR, fun k => S k ∨ llS A' (n + 1) c' (rs ++ [r]) k, ⟨cset (hb5.trans h.top) 0 _ rfl, ?_, hll, ?_, .inl h.sb, fun k hk => .inl (h.sr k hk), fun k hk => .inr hk, fun k hk => ?_, fun k hk => ⟨(h.ar k hk).1, fun e => ?_⟩, fun e => ?_, ?_⟩, fun k hk => ?_⟩, ?_⟩
  · rw [List.map_append, h.l]
    simp [hx]
  · exact (PW rb m p.row).keep h.row (fun k hk => hold k (hlt k (h.sr k hk)) (h.ar k hk).1 fun e => (h.ar k hk).2 (.inl e)) (by rw [hsz]; omega)
  · rcases hk with hk | hk
    · have := hlt k hk
      omega
    · exact hll.lt k hk
  · rcases e with e | ⟨q, hq2, hk2⟩
    · rcases hnew k e with e2 | e2
      · exact (h.ar k hk).2 (.inl e2)
      · have := hlt k (h.sr k hk)
        omega
    · rcases List.mem_append.1 hq2 with hq2 | hq2
      · exact (h.ar k hk).2 (.inr ⟨q, hq2, hk2⟩)
      · obtain rfl := List.mem_singleton.1 hq2
        have := hrl k hk2
        have := hlt k (h.sr k hk)
        omega
  · rcases e with e | ⟨q, hq2, hk2⟩
    · exact hnb b e rfl
    · rcases List.mem_append.1 hq2 with hq2 | hq2
      · exact h.al (.inr ⟨q, hq2, hk2⟩)
      · obtain rfl := List.mem_singleton.1 hq2
        exact hrb b hk2 rfl
  · have := h.few
    simp only [List.length_append, List.length_singleton]
    omega
  · rcases hk with hk | hk | ⟨q, hq2, hk2⟩
    · exact .inl hk
    · rcases hnew k hk with e2 | e2
      · exact .inl (hrow k e2)
      · exact .inr (by omega)
    · rcases List.mem_append.1 hq2 with hq2 | hq2
      · exact .inl (h.sl k (.inr ⟨q, hq2, hk2⟩))
      · obtain rfl := List.mem_singleton.1 hq2
        exact .inr (hrl k hk2)
  · have e1 : Off S w w4 := Off.of S h4
    have e2 : Off S w4 w5 := ⟨hg.os, hg.tape, hg.output, hg.size, fun k hk hn => hw5 k hk fun e => hn (hrow k e)⟩
    exact (e1.trans e2 fun _ h => .inl h).set1 h.sb 0 _
/-- the last id is written -/
theorem PPm.last {rs : List Lr} {A : Option Addr} {n c rb : Nat} {SR : Nat → Prop} (h : PPm b mo idl m p rs A n c rb SR S w) (v : Int) : PPm b mo idl m { p with last := v } rs A n c rb SR S (w.setCell ⟨b, 1, none⟩ (.int .i64 v)) := by
  have hk : ∀ j, j ≠ b → (w.setCell ⟨b, 1, none⟩ (.int .i64 v)).heap[j]? = w.heap[j]? := fun j hj => Below.heap_setCell _ _ _ _ fun e => hj (by first | exact e.symm | exact e)
  have hz := size_setCell w ⟨b, 1, none⟩ (.int .i64 v)
  exact ⟨cset h.top 1 _ rfl, h.l, h.hl.keep (fun j hj => hk j fun e => h.al (e ▸ hj)) (by omega), (PW rb m p.row).keep h.row (fun j hj => hk j (h.ar j hj).1) (by omega), h.sb, h.sr, h.sl, fun j hj => by have := h.lt j hj; omega, h.ar, h.al, h.few⟩
set_option maxHeartbeats 4000000 in
theorem popen_ok (ep now : Int) {rs : List Lr} {A : Option Addr} {n c rb : Nat} {SR : Nat → Prop} (h : PPm b mo idl m p rs A n c rb SR S w) (hfew : (p.l.length : Int) < mo) :
    Calls Try.prog 68 #[.pointer (some ⟨b, 0, none⟩), .int .u64 ep, .int .u64 now] w fun e w' => ∃ r : Lr, r.h = ⟨IntKind.i64.wrap (p.last + 1), ep, .idle false 0, now⟩ ∧ e = .returned (lkV r) ∧ Opened b mo idl m p { p with l := p.l ++ [⟨IntKind.i64.wrap (p.last + 1), ep, .idle false 0, now⟩], last := IntKind.i64.wrap (p.last + 1) } S r w w' := by
  obtain ⟨i0, hi, hi0, hi1, hi2⟩ := info_parts linkinfo
  obtain ⟨⟨d0, d1, _⟩, f0, f1⟩ := ppcells h.top
  obtain ⟨v, hv⟩ : ∃ v, IntKind.i64.wrap (p.last + 1) = v := ⟨_, rfl⟩
  rw [hv]
  have HV := Lib.hid hv
  obtain ⟨hrl, hpl, hn6⟩ := h.len
  have h1 := h.last v
  obtain ⟨w1, hw1⟩ : ∃ u, w.setCell ⟨b, 1, none⟩ (.int .i64 v) = u := ⟨_, rfl⟩
  rw [hw1] at h1
  have hz1 : w1.heap.size = w.heap.size := by rw [← hw1]; exact size_setCell _ _ _
  have HO1 : Hid (Off S w w1) := Lib.hid (hw1 ▸ (Off.refl S w).set1 h.sb 1 _)
  have HW1 := Lib.hid hw1
  have H1 := Lib.hid h1
  have hbl := h1.lt b h1.sb
  obtain ⟨⟨e0, e1, _⟩, g0, g1⟩ := ppcells h1.top
  -- what a new connection leaves, in whatever world behind the count's
  have HNC : Hid (∀ u, Below w1.heap.size w1 u → Calls Try.prog 88 #[.int .u64 ep] u fun e u' => ∃ a : Nat, e = .returned (.pointer (some ⟨a, 0, none⟩)) ∧ Below w1.heap.size w1 u' ∧ u'.cell? ⟨b, 1, none⟩ = some (.int .i64 v) ∧
      ∀ u4, u4 = u'.alloc (.cells #[.pointer (some ⟨a, 0, none⟩), .int .i64 v, .int .u64 now] 72) → Hid (∃ A' c' w5, (Builtin.append_ #[59, 59] 59 #[.slice A n c, .slice (some ⟨u4.heap.size, 0, none⟩) 1 1]).run Try.prog (u4.alloc (.cells #[.pointer (some ⟨u'.heap.size, 0, none⟩)] 66)) = .ok (.slice A' (n + 1) c') w5 ∧
        w5.cell? ⟨b, 0, none⟩ = some (.slice A n c) ∧ w5.frozen? ⟨b, 0, none⟩ = false ∧ Opened b mo idl m p { p with l := p.l ++ [⟨v, ep, .idle false 0, now⟩], last := v } S ⟨u'.heap.size, a, ⟨v, ep, .idle false 0, now⟩⟩ w (w5.setCell ⟨b, 0, none⟩ (.slice A' (n + 1) c')))) := Lib.hid fun u hu => by
    refine (cnew_ok ep u).mono ?_
    rintro e u' ⟨rfl, hc, hb⟩
    have hu' := kp_trans hu hb
    have hsu := hu.size
    refine ⟨_, rfl, hu', (hu'.cell (p := ⟨b, 1, none⟩) hbl).trans e1, fun u4 hu4 => Lib.hid ?_⟩
    subst hu4
    have hal := (CC u.heap.size ep (.idle false 0)).lt hc u.heap.size rfl
    have hb4 : Below w1.heap.size w1 (u'.alloc (.cells #[.pointer (some ⟨u.heap.size, 0, none⟩), .int .i64 v, .int .u64 now] 72)) := kp_alloc hu' _
    have hb5 := kp_alloc hb4 (.cells #[.pointer (some ⟨u'.heap.size, 0, none⟩)] 66)
    have hP5 := H1.out.keep (fun j hj => hb5.block j (H1.out.lt j hj)) hb5.size
    have hlk : LK (u'.alloc (.cells #[.pointer (some ⟨u.heap.size, 0, none⟩), .int .i64 v, .int .u64 now] 72)) ⟨u'.heap.size, u.heap.size, ⟨v, ep, .idle false 0, now⟩⟩ := ⟨heap_alloc_new _ _, Thing.next hc (kp_new _ _), by show u'.heap.size ≠ u.heap.size; omega⟩
    have hlk5 := hlk.next (kp_new _ (.cells #[.pointer (some ⟨u'.heap.size, 0, none⟩)] 66))
    have hsrc : ((u'.alloc (.cells #[.pointer (some ⟨u.heap.size, 0, none⟩), .int .i64 v, .int .u64 now] 72)).alloc (.cells #[.pointer (some ⟨u'.heap.size, 0, none⟩)] 66)).cell? ⟨(u'.alloc (.cells #[.pointer (some ⟨u.heap.size, 0, none⟩), .int .i64 v, .int .u64 now] 72)).heap.size, 0, none⟩ = some (.pointer (some ⟨u'.heap.size, 0, none⟩)) := (cellsAt (heap_alloc_new _ _) 0 rfl).1
    obtain ⟨A', c', w5, hr, q2, q3, q4⟩ := run_append_one (P := Try.prog) 59 59 66 i0 _ 8 Try.underlying59 hi hi0 hi1 hi2 rfl hP5.hl.own _ 1 _ hsrc rfl (by omega) (by omega)
    have hrow : ∀ j, (Value.slice A n c).ownBlock = some j → j ≠ b ∧ j < w1.heap.size := fun j hj => ⟨fun e => H1.out.al (.inl (e ▸ hj)), H1.out.lt j (H1.out.sl j (.inl hj))⟩
    have hbb : w5.heap[b]? = w1.heap[b]? := (q3.block b (by have := hb5.size; omega) fun e => (hrow b e.symm).1 rfl).trans (hb5.block b hbl)
    obtain ⟨⟨x0, _⟩, x1, _⟩ := ppcells (hbb.trans H1.out.top)
    refine ⟨A', c', w5, hr, x0, x1, ?_⟩
    obtain ⟨⟨rs', A2, n2, c2, rb2, SR2, S2, t1, t2⟩, t3⟩ := H1.out.gave (r := ⟨u'.heap.size, u.heap.size, ⟨v, ep, .idle false 0, now⟩⟩) rfl hb5 hlk5 (fun k hk => by rcases hk with e | e <;> (simp only at e; omega)) q2 q3 q4 hfew
    exact ⟨⟨rs', A2, n2, c2, rb2, SR2, S2, t1, fun k hk => by have := t2 k hk; rwa [hz1] at this⟩, HO1.out.trans t3 fun _ h => .inl h⟩
  clear h h1 hfew hw1 hi hi0 hi1 hi2 i0
  go_enter Try.func68, Try.ntmps68
  go_wp2_with fail
  rw [HW1.out]
  clear HW1
  go_region_with (go_at_call 88; refine (HNC.out _ (kp_drewN w1 1)).mono ?_; rintro e3 w3 ⟨a, rfl, hb3, y1, hn3⟩; have HN := Lib.hid (hn3 _ rfl); have HB := Lib.hid hb3; clear hn3 hb3)
  all_goals
    obtain ⟨A', c', w5, hr5, x5, z5, hop⟩ := HN.out
    simp only [World.size_alloc] at hr5
    have y0 := (HB.out.cell (p := ⟨b, 0, none⟩) hbl).trans e0
    have hl3 : b < w3.heap.size := Nat.lt_of_lt_of_le hbl HB.out.size
    have HR := Lib.hid hr5
    have HP := Lib.hid hop
    clear hr5 hop HN HB HNC
    go_wp2_with (at_builtin; refine wpList_append_run rfl (.tmp 28) (.tmp 30) _ rfl _ _ rfl rfl HR.out ?_)
    go_ret
    exact ⟨_, rfl, rfl, HP.out⟩
end
end

/- The project's layer 10: give: contract. -/
section
open Go.RowKit
set_option maxRecDepth 100000
attribute [local go_sem] Oper.semAt_some wide_depth wide_fn

theorem give1_is {r : Lr} {W : World} (B : Nat) (ep : Int) (h : LK W r) (hB : W.heap[B]? = some (.cells #[.int .u64 ep] 22 (0, 0))) : Calls Try.prog 66 #[lkV r, .pointer (some ⟨B, 0, none⟩)] W fun e w' => e = .returned (.bool (r.h.idle && (r.h.ep != ep))) ∧ Below W.heap.size W w' := by
  obtain ⟨⟨c0, _, _⟩, _⟩ := h.cells
  obtain ⟨x0, _⟩ := cellsAt hB 0 (v := .int .u64 ep) rfl
  have HI : Hid (∀ q, Calls Try.prog 38 #[lkV r] (W.drewN q) fun e w' => e = .returned (.bool r.h.idle) ∧ w' = W.drewN q) := Lib.hid fun q => (isIdle_ok (h.next (kp_drewN W q))).mono fun _ _ ⟨h1, h2⟩ => ⟨h1, h2.symm⟩
  have HQ : Hid (∀ q, Calls Try.prog 32 #[.pointer (some ⟨r.a, 0, none⟩)] (W.drewN q) fun e w' => e = .returned (.int .u64 r.h.ep) ∧ w' = W.drewN q) := Lib.hid fun q => (cepoch_ok ((CC r.a r.h.ep r.h.c).next h.c (kp_drewN W q))).mono fun _ _ ⟨h1, h2⟩ => ⟨h1, h2.symm⟩
  unfold lkV at HI ⊢
  clear h hB
  generalize r.h.ep = i at *
  generalize r.l = l at *
  generalize r.a = a at *
  cases hi : r.h.idle with
  | false =>
    rw [hi] at HI
    clear hi
    go_enter Try.func66, Try.ntmps66
    go_wp2_with fail
    go_quiet (first | (go_at_call 38; exact Calls.quiet_of_same (HI.out _)))
    go_wp2_with fail
    go_ret
    exact ⟨rfl, kp_drewN _ _⟩
  | true =>
    rw [hi] at HI
    clear hi
    go_enter Try.func66, Try.ntmps66
    go_wp2_with fail
    go_quiet (first | (go_at_call 38; exact Calls.quiet_of_same (HI.out _)) | (go_at_call 32; exact Calls.quiet_of_same (HQ.out _)))
    go_wp2_with fail
    go_ret
    exact ⟨rfl, kp_drewN _ _⟩
theorem lend_busy {c : Cn} (ss : Int) (h : (c.s == 1) = false) : c.lendA ss = false ∧ c.lendC ss = c := by
  cases c with
  | idle d n => simp [Cn.s] at h
  | lent o f d n | drains o f d n | closed d n => exact ⟨rfl, rfl⟩
theorem lend_free {c : Cn} {ss : Int} (hs : 1 ≤ ss) (h : (c.s == 1) = true) : c.lendA ss = true := by
  cases c with
  | idle d n => exact decide_eq_true hs
  | lent o f d n | drains o f d n | closed d n => simp [Cn.s] at h
section
variable {b : Nat} {mo idl m : Int} {k : Nat} {p : Pl} {S : Nat → Prop} {w : World}
/-- what give has done with those of other epochs -/
theorem pcut_ok (ep : Int) (h : (PP b mo idl m p).p S w) (B : Nat) (hB : w.heap[B]? = some (.cells #[.int .u64 ep] 22 (0, 0))) (hS : ¬ S B) :
    Calls Try.prog 30 #[.pointer (some ⟨b, 0, none⟩), .func (.func 66) #[] #[.pointer (some ⟨B, 0, none⟩)], .func (.methodOf 66 "Drain") #[] #[]] w fun e w' => (∃ v, e = .returned v) ∧ w'.heap[B]? = some (.cells #[.int .u64 ep] 22 (0, 0)) ∧ (PP b mo idl m { p with l := sweepH (p.l.map (cut1 ep)) }).p S w' ∧ Off (fun j => S j ∨ j = B) w w' := by
  have hBl := (Array.getElem?_eq_some_iff.1 hB).1
  refine (each_ok (T := fun j => j = B) (.func 66) (.methodOf 66 "Drain") #[.pointer (some ⟨B, 0, none⟩)] #[] (fun h => h.idle && (h.ep != ep)) (fun h => h.set h.c.drainC) (fun _ s => s) (fun (_ : Unit) W => W.heap[B]? = some (.cells #[.int .u64 ep] 22 (0, 0))) ()
    h (fun j hj => hj ▸ hS) (fun j hj => hj ▸ hBl) hB ?_ ?_ ?_).mono ?_
  · intro _ W W' hz hq
    exact (hq _ rfl).trans hz
  · intro r _ W hl hz _
    exact ⟨_, _, by simp [invoke, go_sem], give1_is _ ep hl hz⟩
  · intro r _ W hl hz hTn _
    obtain ⟨f, args, h1, h2⟩ := inv_drain hl
    refine ⟨f, args, h1, h2.mono ?_⟩
    rintro e w' ⟨hv, k1, k2⟩
    exact ⟨hv, k1, (k2.block _ (Array.getElem?_eq_some_iff.1 hz).1 fun e => hTn _ e rfl).trans hz, k2.wide fun _ h => .inl h⟩
  · rintro e w' ⟨hv, hz, hp, ho⟩
    have e1 : (fun h : Hd => if (h.idle && (h.ep != ep)) = true then h.set h.c.drainC else h) = cut1 ep := by
      funext h
      simp [cut1, Hd.idle]
    rw [e1] at hp
    exact ⟨hv, hz, hp, ho⟩
/-- within give's loop: none of the first ones is idle -/
def GiveI (b : Nat) (mo idl m : Int) (p1 : Pl) (rs : List Lr) (A : Option Addr) (n c rb : Nat) (SR S : Nat → Prop) (w1 : World) (k : Nat) (W : World) : Prop :=
  PPm b mo idl m p1 rs A n c rb SR S W ∧ Off S w1 W ∧ ∀ j (hj : j < rs.length), j < k → rs[j].h.idle = false
def GiveX (b : Nat) (mo idl m ss ep now : Int) (p : Pl) (S : Nat → Prop) (w : World) (W : World) : Prop :=
  (PP b mo idl m (giveP mo ss ep now p)).p S W ∧ W.cell? ⟨w.heap.size + 2, 0, none⟩ = some (.int .i64 (giveI mo ep p).1) ∧ Off S w W
theorem giveI_eq (mo ep : Int) (p : Pl) {l1 : List Hd} (h : sweepH (p.l.map (cut1 ep)) = l1) : giveI mo ep p = if 0 ≤ firstH Hd.idle l1 then ((l1.getD (firstH Hd.idle l1).toNat default).id, true) else if mo ≤ l1.length then (0, false) else (IntKind.i64.wrap (p.last + 1), true) := by subst h; rfl
theorem giveP_eq (mo ss ep now : Int) (p : Pl) {l1 : List Hd} (h : sweepH (p.l.map (cut1 ep)) = l1) : giveP mo ss ep now p = if 0 ≤ firstH Hd.idle l1 then { p with l := turnH l1 (firstH Hd.idle l1) fun h => h.set (h.c.lendC ss) }
  else if mo ≤ l1.length then { p with l := l1 } else { p with l := l1 ++ [⟨IntKind.i64.wrap (p.last + 1), ep, (Cn.idle false 0).lendC ss, now⟩], last := IntKind.i64.wrap (p.last + 1) } := by subst h; rfl
set_option maxHeartbeats 8000000 in
theorem pgive_ok (ss ep now : Int) (hss : 1 ≤ ss) (h : (PP b mo idl m p).p S w) :
    Calls Try.prog 41 #[.pointer (some ⟨b, 0, none⟩), .int .i64 ss, .int .u64 ep, .int .u64 now] w fun e w' => e = .returned (.int .i64 (giveI mo ep p).1) ∧ Turn (PP b mo idl m (giveP mo ss ep now p)) S w w' := by
  have hSl := (PP b mo idl m p).lt h
  obtain ⟨w0, hw0⟩ : ∃ u, ((w.alloc (.cells #[.int .i64 ss] 3)).alloc (.cells #[.int .u64 ep] 22)).alloc (.cells #[.int .i64 0] 3) = u := ⟨_, rfl⟩
  have hk0 : Below w.heap.size w w0 := hw0 ▸ kp_alloc (kp_alloc (kp_new _ _) _) _
  have hz0 : w0.heap.size = w.heap.size + 3 := by rw [← hw0]; simp
  have hat : ∀ (u : World) (o1 o2 o3 : Obj), ((((u.alloc o1).alloc o2).alloc o3).heap[u.heap.size]? = some o1) ∧ ((((u.alloc o1).alloc o2).alloc o3).heap[u.heap.size + 1]? = some o2) ∧ ((((u.alloc o1).alloc o2).alloc o3).heap[u.heap.size + 2]? = some o3) := fun u o1 o2 o3 => by
    simp only [World.alloc, Array.getElem?_push, Array.size_push]
    refine ⟨?_, ?_, ?_⟩
    · rw [if_neg (by omega), if_neg (by omega), if_pos trivial]
    · rw [if_neg (by omega), if_pos trivial]
    · rw [if_pos trivial]
  obtain ⟨a0, a1, a2⟩ := hat w (.cells #[.int .i64 ss] 3) (.cells #[.int .u64 ep] 22) (.cells #[.int .i64 0] 3)
  rw [hw0] at a0 a1 a2
  have HC := Lib.hid (pcut_ok ep (Thing.next h hk0) (w.heap.size + 1) a1 (fun e => by have := hSl _ e; omega))
  have HW0 := Lib.hid hw0
  have HK0 := Lib.hid hk0
  have HA0 := Lib.hid a0
  have HA2 := Lib.hid a2
  have HSL := Lib.hid hSl
  clear hw0 hk0 a0 a1 a2 hat h hSl
  obtain ⟨l1, hl1⟩ : ∃ l1, sweepH (p.l.map (cut1 ep)) = l1 := ⟨_, rfl⟩
  have HGI := Lib.hid (giveI_eq mo ep p hl1)
  have HGP := Lib.hid (giveP_eq mo ss ep now p hl1)
  rw [hl1] at HC
  clear hl1
  refine (callsIn_wide (n := 3)).1 ?_
  refine callsIn_of_wp_marks Try.func41 rfl trivial ?_
  simp only [Try.ntmps41, List.size_toArray, List.length_cons, List.length_nil, Nat.reduceAdd, Nat.reduceSub, Array.replicate_succ, Array.replicate_zero, List.push_toArray, List.append_toArray, List.nil_append, List.cons_append]
  gi_wp2_with (gi_at_call 30; rw [HW0.out]; refine CallsIn.mono (callsIn_wide.2 HC.out) ?_; rintro e1 w1 ⟨⟨v1, rfl⟩, hb1, hp1, ho1⟩; have HB1 := Lib.hid hb1; have HP1 := Lib.hid hp1; have HO1 := Lib.hid ho1; clear hb1 hp1 ho1)
  obtain ⟨rs, A, n, c, rb, SR, hP⟩ := PP.at_ HP1.out
  obtain ⟨hrl, hpl, hn6⟩ := hP.len
  obtain ⟨⟨d0, _⟩, _⟩ := ppcells hP.top
  have hz1 := HO1.out.size
  have hB0 : w1.heap[w.heap.size]? = some (.cells #[.int .i64 ss] 3 (0, 0)) := (HO1.out.block _ (by omega) fun e => e.elim (fun e => by have := HSL.out _ e; omega) (fun e => by omega)).trans HA0.out
  have hB2 : w1.heap[w.heap.size + 2]? = some (.cells #[.int .i64 0] 3 (0, 0)) := (HO1.out.block _ (by omega) fun e => e.elim (fun e => by have := HSL.out _ e; omega) (fun e => by omega)).trans HA2.out
  have HOW : Hid (Off S w w1) := Lib.hid ((Off.of S HK0.out).trans HO1.out fun i hi => hi.elim .inl fun e => .inr (by omega))
  have HP := Lib.hid hP
  have HQ0 := Lib.hid hB0
  have HQ2 := Lib.hid hB2
  clear hP HP1 HO1 HA0 HA2 HC HK0 hB0 hB2
  have hpl' : l1.length = n := hpl
  have hrp : rs.length = l1.length := by omega
  refine wpIn_rangeAll (b := b) (n := n) (c := c) (A := A) (rs := rs) rfl hrl hn6 d0
    (GiveI b mo idl m { p with l := l1 } rs A n c rb SR S w1) (GiveX b mo idl m ss ep now p S w) ?stI ?stX ?hat ?h0
    (fun r => { tmps := #[.pointer (some ⟨b, 0, none⟩), .int .i64 ss, .int .u64 ep, .int .u64 now, undef, .pointer (some ⟨w.heap.size, 0, none⟩), .pointer (some ⟨w.heap.size + 1, 0, none⟩), undef, .pointer (some ⟨w.heap.size + 2, 0, none⟩), lkV r, undef, .pointer (some ⟨b, 0, none⟩), .func (.func 66) #[] #[.pointer (some ⟨w.heap.size + 1, 0, none⟩)], .func (.methodOf 66 "Drain") #[] #[], v1, .pointer (some ⟨b, 0, none⟩), .func (.func 27) #[.pointer (some ⟨b, 0, none⟩)] #[], lkV r, undef, undef, undef, undef, undef, undef, undef, undef, undef, undef, undef, undef, undef, undef, undef, undef, undef, undef, undef, undef, undef, undef, undef, undef, undef, undef, undef, undef, undef, undef, undef, undef, undef, undef], defers := [] }) ?assign ?body ?done ?stop
  case stI =>
    rintro k W W' ⟨h1, h2, h3⟩ ho
    have hzW := h2.size
    refine ⟨h1.keep (fun j hj => ho.block j (h1.lt j hj) fun e => ?_) ho.size, h2.trans ho fun i hi => .inr (by rcases hi with e | e <;> omega), h3⟩
    have := HSL.out j hj
    rcases e with e | e <;> omega
  case stX =>
    rintro W W' ⟨h1, h2, h3⟩ ho
    have hl2 : w.heap.size + 2 < W.heap.size := World.block_lt_of_cell? W _ h2
    have hlt := (PP b mo idl m (giveP mo ss ep now p)).lt h1
    have hq : ∀ j, j < W.heap.size → j < w1.heap.size → W'.heap[j]? = W.heap[j]? := fun j hj hj1 => ho.block j hj fun e => by rcases e with e | e <;> omega
    exact ⟨(PP b mo idl m (giveP mo ss ep now p)).keep h1 (fun j hj => hq j (hlt j hj) (by have := HSL.out j hj; omega)) ho.size, (World.cell?_of_block (a := ⟨w.heap.size + 2, 0, none⟩) (hq (w.heap.size + 2) hl2 (by omega))).trans h2, h3.trans ho fun i hi => .inr (by rcases hi with e | e <;> omega)⟩
  case hat =>
    rintro k hk W ⟨h1, _, _⟩
    obtain ⟨g, q1, _, _, q2, _⟩ := h1.hl.at_ hk
    exact ⟨g, q1, q2⟩
  case h0 => exact ⟨HP.out, Off.refl _ _, fun j _ h => absurd h (Nat.not_lt_zero _)⟩
  case assign =>
    intro l r W K hK
    gi_wp2
    exact hK
  case body =>
    rintro l k hk W ⟨h1, h2, h3⟩ hsz
    have hlk := h1.hl.lk _ (List.getElem_mem hk)
    obtain ⟨⟨c0, c1, _⟩, _⟩ := hlk.cells
    have hS0 : ∀ j, lkS rs[k] j → S j := fun j hj => h1.sl j (.inr ⟨_, List.getElem_mem hk, hj⟩)
    have x0 := (cellsAt ((h2.block w.heap.size (by omega) fun e => by have := HSL.out _ e; omega).trans HQ0.out) 0 (v := .int .i64 ss) rfl).1
    have hq2 := (h2.block (w.heap.size + 2) (by omega) fun e => by have := HSL.out _ e; omega).trans HQ2.out
    have hmx : Try.prog.follows .mixedOrders = true := by kernel_rfl
    have hlend := clend_ok ss (hlk.drew).c
    have hhh : rs[k].h = l1[k]'(by omega) := HP.out.at_ hk (by show k < l1.length; omega)
    cases hi : rs[k].h.idle with
    | false =>
      obtain ⟨hl1, hl2⟩ := lend_busy (c := rs[k].h.c) ss hi
      rw [hl1, hl2] at hlend
      have HL := Lib.hid hlend
      have HN : Hid (∀ w', Turn (CC rs[k].a rs[k].h.ep rs[k].h.c) (fun j => j = rs[k].a) W.drew w' → GiveI b mo idl m { p with l := l1 } rs A n c rb SR S w1 (k + 1) w' ∧ ∀ j, bkS w1.heap.size j → w'.heap[j]? = W.heap[j]?) := Lib.hid fun w' ht => by
        obtain ⟨t1, t2⟩ := hlk.drew.offs ht
        have ho : Off (fun j => lkS rs[k] j ∨ False) W w' := ⟨t2.os, t2.tape, t2.output, t2.size, fun j hj hn => t2.block j hj fun e => hn (.inl e)⟩
        have hT := h1.turn hk (h' := rs[k].h) t1 (T := fun _ => False) (fun _ h => h.elim) ho
        have e1 : rs.set k (rs[k].set rs[k].h) = rs := List.set_getElem_self hk
        have e2 : ({ p with l := l1 } : Pl).l.set k rs[k].h = l1 := by
          rw [hhh]
          exact List.set_getElem_self _
        rw [e1, e2] at hT
        refine ⟨⟨hT, h2.trans ho fun i hi2 => hi2.elim (fun e => .inl (hS0 i e)) (fun e => e.elim), fun j hj hjk => ?_⟩, fun j hj => ho.block j (by rcases hj with e | e <;> omega) fun e => e.elim (fun e => by have := HSL.out j (hS0 j e); rcases hj with e | e <;> omega) (fun e => e)⟩
        by_cases e : j = k
        · subst e; exact hi
        · exact h3 j hj (by omega)
      clear h1 h2 h3 hlk hS0 hlend hhh hi hl1 hl2 hq2
      unfold lkV
      generalize rs[k].l = la at *
      obtain ⟨aa, haa⟩ : ∃ a, rs[k].a = a := ⟨_, rfl⟩
      rw [haa] at c0
      have HAA := Lib.hid haa
      gi_wp2
      gi_region_with_o (gi_at_call 67; rw [← HAA.out]; refine CallsIn.mono (CallsIn.inRound l (callsIn_wide.2 HL.out)) ?_; rintro e w4 ⟨rfl, ht⟩; have HT := Lib.hid (HN.out w4 ht); clear ht)
      all_goals
        gi_wp2
        exact HT.out
    | true =>
      have hl1 := lend_free (c := rs[k].h.c) hss hi
      rw [hl1] at hlend
      have HL := Lib.hid hlend
      have hfi : firstH Hd.idle l1 = k := firstH_at (by omega) (fun j hj hjk => by
        have := h3 j (by omega) hjk
        rwa [HP.out.at_ (by omega) (show j < l1.length from hj)] at this) (by rw [← hhh]; exact hi)
      have e1 : (giveI mo ep p).1 = rs[k].h.id := by
        rw [HGI.out, hfi, if_pos (by omega), Int.toNat_natCast, List.getD_eq_getElem?_getD, List.getElem?_eq_getElem (by omega), hhh]
        rfl
      have HN : Hid (∀ w', Turn (CC rs[k].a rs[k].h.ep (rs[k].h.c.lendC ss)) (fun j => j = rs[k].a) W.drew w' → w'.cell? ⟨rs[k].l, 1, none⟩ = some (.int .i64 rs[k].h.id) ∧ w'.cell? ⟨w.heap.size + 2, 0, none⟩ = some (.int .i64 0) ∧ w'.frozen? ⟨w.heap.size + 2, 0, none⟩ = false ∧
          GiveX b mo idl m ss ep now p S w (w'.setCell ⟨w.heap.size + 2, 0, none⟩ (.int .i64 rs[k].h.id)) ∧ ∀ j, bkS w1.heap.size j → (w'.setCell ⟨w.heap.size + 2, 0, none⟩ (.int .i64 rs[k].h.id)).heap[j]? = W.heap[j]?) := Lib.hid fun w' ht => by
        obtain ⟨t1, t2⟩ := hlk.drew.offs ht
        have ho : Off (fun j => lkS rs[k] j ∨ False) W w' := ⟨t2.os, t2.tape, t2.output, t2.size, fun j hj hn => t2.block j hj fun e => hn (.inl e)⟩
        have hT := h1.turn hk (h' := rs[k].h.set (rs[k].h.c.lendC ss)) t1 (T := fun _ => False) (fun _ h => h.elim) ho
        have e2 : giveP mo ss ep now p = { p with l := l1.set k (rs[k].h.set (rs[k].h.c.lendC ss)) } := by
          rw [HGP.out, hfi, if_pos (by omega), turnH_at (by omega), hhh]
        have hz' := ho.size
        have hq3 := (ho.block (w.heap.size + 2) (by omega) fun e => e.elim (fun e => by have := HSL.out _ (hS0 _ e); omega) (fun e => e)).trans hq2
        obtain ⟨y1, y2⟩ := cellsAt hq3 0 (v := .int .i64 0) rfl
        have hset : ∀ j, j ≠ w.heap.size + 2 → (w'.setCell ⟨w.heap.size + 2, 0, none⟩ (.int .i64 rs[k].h.id)).heap[j]? = w'.heap[j]? := fun j hj => Below.heap_setCell _ _ _ _ fun e => hj (by first | exact e.symm | exact e)
        refine ⟨t1.cells.1.2.1, y1, y2, ⟨?_, ?_, ?_⟩, fun j hj => (hset j (by rcases hj with e | e <;> omega)).trans (ho.block j (by rcases hj with e | e <;> omega) fun e => e.elim (fun e => by have := HSL.out j (hS0 j e); rcases hj with e | e <;> omega) (fun e => e))⟩
        · rw [e2]
          exact ⟨_, A, n, c, rb, SR, hT.keep (fun j hj => hset j (by have := HSL.out j hj; omega)) (by rw [size_setCell]; omega)⟩
        · rw [e1]
          exact World.cell?_setCell_same _ _ _ y1
        · exact (((HOW.out.trans h2 fun _ h => .inl h).trans ho fun i hi2 => hi2.elim (fun e => .inl (hS0 i e)) (fun e => e.elim))).setCell (.inr (Nat.le_add_right _ _)) _
      clear h1 h2 h3 hlk hS0 hlend hhh hi hl1 hq2 hfi e1
      unfold lkV
      obtain ⟨la, hla⟩ : ∃ a, rs[k].l = a := ⟨_, rfl⟩
      obtain ⟨aa, haa⟩ : ∃ a, rs[k].a = a := ⟨_, rfl⟩
      obtain ⟨iv, hiv⟩ : ∃ a, rs[k].h.id = a := ⟨_, rfl⟩
      rw [haa, hla] at c0
      rw [hla] at c1 ⊢
      rw [hla, hiv] at HN
      have HAA := Lib.hid haa
      gi_wp2
      gi_region_with_o (gi_at_call 67; rw [← HAA.out]; refine CallsIn.mono (CallsIn.inRound l (callsIn_wide.2 HL.out)) ?_; rintro e w4 ⟨rfl, ht⟩; obtain ⟨z1, z2, z3, z4⟩ := HN.out w4 ht; have HT := Lib.hid z4; clear ht z4)
      all_goals
        gi_wp2
        exact HT.out
  case done =>
    rintro W ⟨h1, h2, h3⟩ hd
    have hfi : firstH Hd.idle l1 = -1 := firstH_none fun y hy => by
      obtain ⟨j, hj, rfl⟩ := List.getElem_of_mem hy
      have := h3 j (by omega) (by omega)
      rwa [HP.out.at_ (by omega) (show j < l1.length from hj)] at this
    obtain ⟨⟨e0, _, e2, _⟩, _⟩ := ppcells h1.top
    have hzW := h2.size
    have hdl := (Array.getElem?_eq_some_iff.1 hd).1
    have hq2 := (h2.block (w.heap.size + 2) (by omega) fun e => by have := HSL.out _ e; omega).trans HQ2.out
    have hq0 := (h2.block w.heap.size (by omega) fun e => by have := HSL.out _ e; omega).trans HQ0.out
    have ye := (cellsAt ((h2.block (w.heap.size + 1) (by omega) fun e => by have := HSL.out _ e; omega).trans HB1.out) 0 (v := .int .u64 ep) rfl).1
    obtain ⟨y1, y2⟩ := cellsAt hq2 0 (v := .int .i64 0) rfl
    have hmx : Try.prog.follows .mixedOrders = true := by kernel_rfl
    have hfew := h1.few
    have hfew1 : (l1.length : Int) ≤ mo := hfew.1
    by_cases hfull : mo = (n : Int)
    · have e1 : (giveI mo ep p).1 = 0 := by rw [HGI.out, hfi, if_neg (by omega), if_pos (by omega)]
      have e3 : giveP mo ss ep now p = { p with l := l1 } := by rw [HGP.out, hfi, if_neg (by omega), if_pos (by omega)]
      have hset : ∀ q j, j ≠ w.heap.size + 2 → ((W.drewN q).setCell ⟨w.heap.size + 2, 0, none⟩ (.int .i64 0)).heap[j]? = W.heap[j]? := fun q j hj => Below.heap_setCell _ _ _ _ fun e => hj (by first | exact e.symm | exact e)
      have HE : Hid (∀ q, ((W.drewN q).setCell ⟨w.heap.size + 2, 0, none⟩ (.int .i64 0)).heap[w1.heap.size]? = some (.deferred (some [])) ∧ ∀ o, Turn (PP b mo idl m (giveP mo ss ep now p)) S w (((W.drewN q).setCell ⟨w.heap.size + 2, 0, none⟩ (.int .i64 0)).putObj w1.heap.size o) ∧ (((W.drewN q).setCell ⟨w.heap.size + 2, 0, none⟩ (.int .i64 0)).putObj w1.heap.size o).cell? ⟨w.heap.size + 2, 0, none⟩ = some (.int .i64 (giveI mo ep p).1)) := Lib.hid fun q => ⟨(hset q _ (by omega)).trans hd, fun o => by
        have hzs : ((W.drewN q).setCell ⟨w.heap.size + 2, 0, none⟩ (.int .i64 0)).heap.size = W.heap.size := size_setCell _ _ _
        refine ⟨⟨⟨S, ?_, fun _ h => .inl h⟩, ?_⟩, ?_⟩
        · rw [e3]
          exact ⟨rs, A, n, c, rb, SR, h1.keep (fun j hj => (World.putObj_heap_other (by have := HSL.out j hj; omega)).trans (hset q j (by have := HSL.out j hj; omega))) (by rw [World.putObj_size, hzs]; exact Nat.le_refl _)⟩
        · have o1 : Off S w ((W.drewN q).setCell ⟨w.heap.size + 2, 0, none⟩ (.int .i64 0)) := ((HOW.out.trans h2 fun _ h => .inl h).trans (Off.of S (kp_drewN W q)) fun _ h => .inl h).setCell (.inr (Nat.le_add_right _ _)) _
          exact o1.trans (off_putObj (B := w1.heap.size) _ o (.inl rfl)) fun i hi => .inr (by rcases hi with e | e <;> omega)
        · rw [e1]
          exact put_cell (World.cell?_setCell_same (W.drewN q) ⟨w.heap.size + 2, 0, none⟩ (.int .i64 0) (u := .int .i64 0) y1) (by omega) o⟩
      subst hfull
      clear h1 h2 h3 hd hq2 hq0 hfi e1 e3 hset hfew hfew1
      gi_wp2
      gi_quiet (fail)
      gi_wp2
      refine ⟨by simp, .inl ⟨_, _, rfl, run_takeDeferred (HE.out nq).1, ?_⟩⟩
      obtain ⟨g1, g2⟩ := (HE.out nq).2 (.deferred none)
      refine ⟨.int .i64 (giveI n ep p).1, ?_, rfl, g1⟩
      rw [results_cell1 rfl]
      clear g1
      have g3 : (((W.drewN nq).setCell ⟨w.heap.size + 1 + 1, 0, none⟩ (.int .i64 0)).putObj w1.heap.size (.deferred none)).cell? ⟨w.heap.size + 1 + 1, 0, none⟩ = some (.int .i64 (giveI n ep p).1) := g2
      simp [loadVar, go_sem, g3]
    · obtain ⟨v, hv⟩ : ∃ v, IntKind.i64.wrap (p.last + 1) = v := ⟨_, rfl⟩
      have e1 : (giveI mo ep p).1 = v := by rw [HGI.out, hfi, if_neg (by omega), if_neg (by omega), hv]
      have e3 : giveP mo ss ep now p = { p with l := l1 ++ [⟨v, ep, (Cn.idle false 0).lendC ss, now⟩], last := v } := by rw [HGP.out, hfi, if_neg (by omega), if_neg (by omega), hv]
      have hne : ((n : Int) == mo) = false := by
        simp only [beq_eq_false_iff_ne]
        omega
      have HOP : Hid (∀ q, Calls Try.prog 68 #[.pointer (some ⟨b, 0, none⟩), .int .u64 ep, .int .u64 now] (W.drewN q) fun e w' => ∃ r : Lr, e = .returned (.pointer (some ⟨r.l, 0, none⟩)) ∧ w'.cell? ⟨r.l, 0, none⟩ = some (.pointer (some ⟨r.a, 0, none⟩)) ∧ w'.cell? ⟨w.heap.size, 0, none⟩ = some (.int .i64 ss) ∧
          ∀ q2, Calls Try.prog 67 #[.pointer (some ⟨r.a, 0, none⟩), .int .i64 ss] (w'.drewN q2) fun e w5 => (∃ v, e = .returned v) ∧ w5.cell? ⟨r.l, 1, none⟩ = some (.int .i64 v) ∧ w5.cell? ⟨w.heap.size + 2, 0, none⟩ = some (.int .i64 0) ∧ w5.frozen? ⟨w.heap.size + 2, 0, none⟩ = false ∧
            Hid ((w5.setCell ⟨w.heap.size + 2, 0, none⟩ (.int .i64 v)).heap[w1.heap.size]? = some (.deferred (some [])) ∧ ∀ o, Turn (PP b mo idl m (giveP mo ss ep now p)) S w ((w5.setCell ⟨w.heap.size + 2, 0, none⟩ (.int .i64 v)).putObj w1.heap.size o) ∧ ((w5.setCell ⟨w.heap.size + 2, 0, none⟩ (.int .i64 v)).putObj w1.heap.size o).cell? ⟨w.heap.size + 2, 0, none⟩ = some (.int .i64 (giveI mo ep p).1))) := Lib.hid fun q => by
        have hh := h1.keep (w' := W.drewN q) (fun _ _ => rfl) (Nat.le_refl _)
        refine (popen_ok ep now hh (by show (l1.length : Int) < mo; omega)).mono ?_
        rintro e w' ⟨r, hr, rfl, ⟨rs2, A2, n2, c2, rb2, SR2, S2, hP2, hS2⟩, hoff⟩
        dsimp only at hr hP2
        rw [hv] at hr hP2
        have hzw := hoff.size
        have hzq : (W.drewN q).heap.size = W.heap.size := rfl
        have hjr : rs2.length < (rs2 ++ [r]).length := by simp
        have hget : (rs2 ++ [r])[rs2.length] = r := by simp
        have hlk : LK w' r := hP2.hl.lk r (by simp)
        have hbase : ∀ j, j < W.heap.size → ¬ S j → w'.heap[j]? = W.heap[j]? := fun j hj hn => hoff.block j hj hn
        have hSb : ∀ j, w.heap.size ≤ j → ¬ S j := fun j hj e => by have := HSL.out j e; omega
        have hx0 := (hbase w.heap.size (by omega) (hSb _ (Nat.le_refl _))).trans hq0
        have hx2 := (hbase (w.heap.size + 2) (by omega) (hSb _ (by omega))).trans hq2
        have hxd := (hbase w1.heap.size hdl (hSb _ (by omega))).trans hd
        have hrS : ∀ j, lkS r j → S2 j := fun j hj => hP2.sl j (.inr ⟨r, by simp, hj⟩)
        have hrW : ∀ j, S2 j → w.heap.size ≤ j → W.heap.size ≤ j := fun j hj hj2 => (hS2 j hj).elim (fun e => absurd e (hSb j hj2)) (fun e => e)
        refine ⟨r, rfl, hlk.cells.1.1, (cellsAt hx0 0 rfl).1, fun q2 => ?_⟩
        have hlq := hlk.next (kp_drewN w' q2)
        have hcl := clend_ok ss hlq.c
        rw [hr] at hcl
        refine hcl.mono ?_
        rintro e w5 ⟨he, ht⟩
        have ht' : Turn (CC r.a r.h.ep ((Cn.idle false 0).lendC ss)) (fun j => j = r.a) (w'.drewN q2) w5 := by rw [hr]; exact ht
        obtain ⟨t1, t2⟩ := hlq.offs ht'
        have ho5 : Off (fun j => lkS r j ∨ False) w' w5 := ⟨t2.os, t2.tape, t2.output, t2.size, fun j hj hn => t2.block j hj fun e => hn (.inl e)⟩
        have hz5 := ho5.size
        have hnr : ∀ j, w.heap.size ≤ j → j < W.heap.size → ¬ lkS r j := fun j h1 h2 e => by have := hrW j (hrS j e) h1; omega
        have hb5 : ∀ j, w.heap.size ≤ j → j < W.heap.size → w5.heap[j]? = w'.heap[j]? := fun j h1 h2 => ho5.block j (by omega) fun e => e.elim (hnr j h1 h2) fun e => e
        have hy2 := (hb5 (w.heap.size + 2) (by omega) (by omega)).trans hx2
        obtain ⟨y1, y3⟩ := cellsAt hy2 0 (v := .int .i64 0) rfl
        have hT := hP2.turn (j := rs2.length) hjr (h' := r.h.set ((Cn.idle false 0).lendC ss)) (by rw [hget]; exact t1) (T := fun _ => False) (fun _ h => h.elim) (by rw [hget]; exact ho5)
        have hset : ∀ j, j ≠ w.heap.size + 2 → (w5.setCell ⟨w.heap.size + 2, 0, none⟩ (.int .i64 v)).heap[j]? = w5.heap[j]? := fun j hj => Below.heap_setCell _ _ _ _ fun e => hj (by first | exact e.symm | exact e)
        have hzs : (w5.setCell ⟨w.heap.size + 2, 0, none⟩ (.int .i64 v)).heap.size = w5.heap.size := size_setCell _ _ _
        have hid : r.h.id = v := by rw [hr]
        refine ⟨⟨_, he⟩, by rw [← hid]; exact t1.cells.1.2.1, y1, y3, Lib.hid ⟨(hset _ (by omega)).trans ((hb5 _ (by omega) hdl).trans hxd), fun o => ⟨⟨⟨S2, ?_, fun j hj => (hS2 j hj).imp (fun e => e) fun e => by omega⟩, ?_⟩, ?_⟩⟩⟩
        · have hl2 : rs2.length = l1.length := by
            have := congrArg List.length hP2.l
            simpa using this
          have e4 : ({ l := (l1 ++ [(⟨v, ep, .idle false 0, now⟩ : Hd)]).set rs2.length (r.h.set ((Cn.idle false 0).lendC ss)), row := p.row, last := v } : Pl) = giveP mo ss ep now p := by
            rw [e3, hl2, hr]
            simp [Hd.set]
          rw [← e4]
          refine ⟨_, A2, n2, c2, rb2, SR2, hT.keep (fun j hj => (World.putObj_heap_other fun e => ?_).trans (hset j fun e => ?_)) (by rw [World.putObj_size, hzs]; exact Nat.le_refl _)⟩
          · have := hrW j hj (by omega)
            omega
          · have := hrW j hj (by omega)
            omega
        · have o1 : Off S w (w5.setCell ⟨w.heap.size + 2, 0, none⟩ (.int .i64 v)) := ((((HOW.out.trans h2 fun _ h => .inl h).trans (Off.of S (kp_drewN W q)) fun _ h => .inl h).trans hoff fun _ h => .inl h).trans ho5 fun i hi => hi.elim (fun e => (hS2 i (hrS i e)).imp (fun e => e) fun e => by omega) fun e => e.elim).setCell (.inr (Nat.le_add_right _ _)) _
          exact o1.trans (off_putObj (B := w1.heap.size) _ o (.inl rfl)) fun i hi => .inr (by rcases hi with e | e <;> omega)
        · rw [e1]
          exact put_cell (World.cell?_setCell_same w5 ⟨w.heap.size + 2, 0, none⟩ (.int .i64 v) (u := .int .i64 0) y1) (by omega) o
      clear h1 h2 h3 hd hq2 hq0 hfi e1 e3 hfew hfew1 hfull hv
      gi_wp2
      gi_quiet (fail)
      gi_wp2_with (gi_at_call 68; refine CallsIn.mono (callsIn_wide.2 (HOP.out nq)) ?_; rintro e4 w4 ⟨r, rfl, z0, z1, hL⟩; have HL := Lib.hid hL; clear hL)
      first
        | (gi_region_with_o (gi_at_call 67; refine CallsIn.mono (callsIn_wide.2 (HL.out 1)) ?_; rintro e5 w5 ⟨⟨v5, rfl⟩, u0, u1, u2, hF⟩; have HF := Lib.hid hF.out; clear hF))
        | fail
      all_goals
        gi_wp2
        refine ⟨by simp, .inl ⟨_, _, rfl, run_takeDeferred HF.out.1, ?_⟩⟩
        obtain ⟨g1, g2⟩ := HF.out.2 (.deferred none)
        refine ⟨.int .i64 (giveI mo ep p).1, ?_, rfl, g1⟩
        rw [results_cell1 rfl]
        clear g1
        have g3 : ((w5.setCell ⟨w.heap.size + 1 + 1, 0, none⟩ (.int .i64 v)).putObj w1.heap.size (.deferred none)).cell? ⟨w.heap.size + 1 + 1, 0, none⟩ = some (.int .i64 (giveI mo ep p).1) := g2
        simp [loadVar, go_sem, g3]
  case stop =>
    rintro W ⟨h1, h2, h3⟩ hd
    have hl2 : w.heap.size + 2 < W.heap.size := World.block_lt_of_cell? W _ h2
    have hlt := (PP b mo idl m (giveP mo ss ep now p)).lt h1
    have hT : Turn (PP b mo idl m (giveP mo ss ep now p)) S w (W.putObj w1.heap.size (.deferred none)) := ⟨⟨S, (PP b mo idl m (giveP mo ss ep now p)).keep h1 (fun j hj => World.putObj_heap_other (by have := HSL.out j hj; omega)) (by simp), fun _ h => .inl h⟩, h3.trans (off_putObj (B := w1.heap.size) _ _ (.inl rfl)) fun i hi => .inr (by rcases hi with e | e <;> omega)⟩
    have HT := Lib.hid hT
    have hc2 := put_cell h2 (by omega : w.heap.size + 2 ≠ w1.heap.size) (.deferred none)
    clear h1 h2 h3 hlt hT
    gi_wp2
    refine ⟨by simp, .inl ⟨_, _, rfl, run_takeDeferred hd, ?_⟩⟩
    refine ⟨.int .i64 (giveI mo ep p).1, ?_, rfl, HT.out⟩
    rw [results_cell1 rfl]
    simp [loadVar, go_sem, hc2]
end
end

/- The project's layer 10: Acquire, Serve, New: contracts. -/
section
open Go.RowKit
set_option maxRecDepth 100000

section
variable {b : Nat} {mo idl m : Int} {k : Nat} {p : Pl} {S : Nat → Prop} {w : World}
theorem giveP_rowP (mo ss ep now : Int) (p : Pl) : (giveP mo ss ep now p).row = p.row := by
  unfold giveP
  dsimp only
  split
  · rfl
  split <;> rfl
theorem giveI_pos (hk : KInv mo m k p) (h1000 : k ≤ 1000) (ep : Int) : ((giveI mo ep p).2 = true → 1 ≤ (giveI mo ep p).1) ∧ ((giveI mo ep p).2 = false → (giveI mo ep p).1 = 0) := by
  rw [giveI_eq mo ep p rfl]
  have hpos : ∀ x ∈ sweepH (p.l.map (cut1 ep)), 1 ≤ x.id := fun x hx => by
    obtain ⟨y, hy, hr⟩ := (Each2.map (eased_cut1 ep) p.l).mem x ((List.mem_filter.1 hx).1)
    rw [hr.id]
    exact hk.pos y hy
  generalize sweepH (p.l.map (cut1 ep)) = l1 at *
  split
  · rename_i hi
    refine ⟨fun _ => ?_, fun e => by cases e⟩
    obtain ⟨i, hii⟩ : ∃ i : Nat, firstH Hd.idle l1 = i := ⟨(firstH Hd.idle l1).toNat, by omega⟩
    obtain ⟨hil, _⟩ := firstH_is hii
    have := hpos l1[i] (List.getElem_mem hil)
    rw [hii]
    simpa [List.getD_eq_getElem?_getD, hil] using this
  split
  · exact ⟨fun e => (by cases e), fun _ => rfl⟩
  · refine ⟨fun _ => ?_, fun e => by cases e⟩
    have := hk.ids.low
    have := hk.ids.high
    show 1 ≤ IntKind.i64.wrap (p.last + 1)
    rw [IntKind.wrap_i64]
    omega
/-- who waits, asked and put: where it lies, in whatever world behind -/
theorem PP.rowc (h : (PP b mo idl m p).p S w) : ∃ rb : Nat, ∀ u, Below w.heap.size w u → u.cell? ⟨b, 4, none⟩ = some (.pointer (some ⟨rb, 0, none⟩)) ∧
    (∀ x, Calls Try.prog 39 #[.pointer (some ⟨rb, 0, none⟩), .int .i64 x] u fun e w' => e = .returned (.int .i64 (atW x p.row)) ∧ Below w.heap.size w w') ∧
    (Calls Try.prog 29 #[.pointer (some ⟨rb, 0, none⟩)] u fun e w' => ∃ A n c, e = .returned (.slice A n c) ∧ w'.ownsRow w.heap.size 3 1 (.slice A n c) n (ivs p.row) ∧ n ≤ 12 ∧ Below w.heap.size w w') ∧
    (∀ x, Calls Try.prog 42 #[.pointer (some ⟨rb, 0, none⟩), .int .i64 x] u fun e w' => e = .returned (.int .i64 (putW m x p.row).1) ∧ Turn (PP b mo idl m { p with row := (putW m x p.row).2 }) S w w') ∧
    (Calls Try.prog 47 #[.pointer (some ⟨rb, 0, none⟩)] u fun e w' => e = .returned (takeW p.row) ∧ Turn (PP b mo idl m { p with row := p.row.tail }) S w w') := by
  obtain ⟨rb, SR, hu⟩ := PP.row h
  refine ⟨rb, fun u hb => ?_⟩
  obtain ⟨c4, hr, hn⟩ := hu u hb
  refine ⟨c4, fun x => (pat_ok x hr).mono fun e w' ⟨h1, _, h3⟩ => ⟨h1, hb.trans (h3.mono hb.size)⟩, (pall_own hr).mono fun e w' ⟨A, n, c, h1, h2, h3, h4⟩ => ⟨A, n, c, h1, own_base_s h2 hb.size, h3, hb.trans (h4.mono hb.size)⟩, fun x => (pput_ok x hr).mono fun e w' ⟨h1, h2⟩ => ⟨h1, ?_⟩, (ptake_ok hr).mono fun e w' ⟨h1, h2⟩ => ⟨h1, ?_⟩⟩
  · exact Turn.comp (S' := S) (fun k h => .inl h) (Off.of S hb) (hn _ w' h2)
  · exact Turn.comp (S' := S) (fun k h => .inl h) (Off.of S hb) (hn _ w' h2)
set_option maxHeartbeats 8000000 in
theorem pacq_ok (ss ep now : Int) (hk : KInv mo m k p) (h1000 : k ≤ 1000) (h : (PP b mo idl m p).p S w) :
    Calls Try.prog 19 #[.pointer (some ⟨b, 0, none⟩), .int .i64 ss, .int .u64 ep, .int .u64 now] w fun e w' => e = .returned (.tuple #[.int .i64 (acqP mo m ss ep now p).2.1, .int .i64 (acqP mo m ss ep now p).2.2]) ∧ Turn (PP b mo idl m (acqP mo m ss ep now p).1) S w w' := by
  obtain ⟨rb, hrow⟩ := PP.rowc h
  have H := Lib.hid h
  obtain ⟨P, hP⟩ : ∃ P, acqP mo m ss ep now p = P := ⟨_, rfl⟩
  rw [hP]
  by_cases hs : ss < 1
  · have hp : P = (p, 0, 1) := by rw [← hP]; exact if_pos hs
    subst hp
    clear h hrow hP
    go_enter Try.func19, Try.ntmps19
    go_wp2_with fail
    go_ret2
    exact ⟨rfl, Turn.here H.out⟩
  have hs1 : 1 ≤ ss := by omega
  obtain ⟨c4, hAt, _, _, _⟩ := hrow w (Below.refl _ _)
  have HAT := Lib.hid (hAt ss)
  by_cases hat : 0 ≤ atW ss p.row
  · have hp : P = (p, 0, 7) := by
      rw [← hP]
      unfold acqP
      rw [if_neg hs]
      split
      · rfl
      · rfl
    subst hp
    obtain ⟨v, hv⟩ : ∃ v, atW ss p.row = v := ⟨_, rfl⟩
    rw [hv] at HAT hat
    have hge : decide (v ≥ 0) = true := decide_eq_true hat
    clear h hrow hP hAt hv
    go_enter Try.func19, Try.ntmps19
    go_wp2_with fail
    refine HAT.out.mono ?_
    rintro e w1 ⟨rfl, hb⟩
    have HB := Lib.hid hb
    clear hb
    go_wp2_with fail
    go_ret2
    exact ⟨rfl, Turn.same H.out HB.out⟩
  have hge : decide (atW ss p.row ≥ 0) = false := decide_eq_false hat
  have HHAS : Hid (∀ u, Below w.heap.size w u → Calls Try.prog 40 #[.pointer (some ⟨b, 0, none⟩), .int .i64 ss] u fun e w' => e = .returned (.bool (hasH ss p.l)) ∧ Below w.heap.size w w') := Lib.hid fun u hb => (phas_ok ss (Thing.next h hb)).mono fun e w' ⟨h1, h2⟩ => ⟨h1, kp_trans hb h2⟩
  cases hh : hasH ss p.l with
  | true =>
    have hp : P = (p, 0, 7) := by
      rw [← hP]
      unfold acqP
      rw [if_neg hs, hh]
      rfl
    subst hp
    rw [hh] at HHAS
    obtain ⟨v, hv⟩ : ∃ v, atW ss p.row = v := ⟨_, rfl⟩
    rw [hv] at HAT hge hat
    clear h hrow hP hAt hv hh
    go_enter Try.func19, Try.ntmps19
    go_wp2_with fail
    refine HAT.out.mono ?_
    rintro e w1 ⟨rfl, hb⟩
    have HC := Lib.hid (HHAS.out w1 hb)
    clear hb
    go_wp2_with fail
    refine HC.out.mono ?_
    rintro e w2 ⟨rfl, hb⟩
    have HB := Lib.hid hb
    clear hb
    go_wp2_with fail
    go_ret2
    exact ⟨rfl, Turn.same H.out HB.out⟩
  | false =>
    rw [hh] at HHAS
    have hacq : acqP mo m ss ep now p = if p.row = [] then (if (giveI mo ep p).2 then (giveP mo ss ep now p, (giveI mo ep p).1, 0) else ((queueP m ss (giveP mo ss ep now p)).1, 0, (queueP m ss (giveP mo ss ep now p)).2)) else ((queueP m ss p).1, 0, (queueP m ss p).2) := by
      unfold acqP
      rw [if_neg hs, hh, if_neg (by simp), if_neg hat]
    rw [hP] at hacq
    have HALL : Hid (∀ u, Below w.heap.size w u → u.cell? ⟨b, 4, none⟩ = some (.pointer (some ⟨rb, 0, none⟩)) ∧ Calls Try.prog 29 #[.pointer (some ⟨rb, 0, none⟩)] u fun e w' => ∃ A n c, e = .returned (.slice A n c) ∧ n = p.row.length ∧ Below w.heap.size w w') := Lib.hid fun u hb => by
      obtain ⟨q1, _, q3, _, _⟩ := hrow u hb
      exact ⟨q1, q3.mono fun e w' ⟨A, n, c, h1, h2, _, h4⟩ => ⟨A, n, c, h1, by have := h2.1; rw [ivs_length] at this; omega, h4⟩⟩
    have HPUT : Hid (∀ u, Below w.heap.size w u → u.cell? ⟨b, 4, none⟩ = some (.pointer (some ⟨rb, 0, none⟩)) ∧ Calls Try.prog 42 #[.pointer (some ⟨rb, 0, none⟩), .int .i64 ss] u fun e w' => e = .returned (.int .i64 (putW m ss p.row).1) ∧ Turn (PP b mo idl m { p with row := (putW m ss p.row).2 }) S w w') := Lib.hid fun u hb => by
      obtain ⟨q1, _, _, q4, _⟩ := hrow u hb
      exact ⟨q1, q4 ss⟩
    have HGV : Hid (∀ u, Below w.heap.size w u → Calls Try.prog 41 #[.pointer (some ⟨b, 0, none⟩), .int .i64 ss, .int .u64 ep, .int .u64 now] u fun e w' => e = .returned (.int .i64 (giveI mo ep p).1) ∧ Turn (PP b mo idl m (giveP mo ss ep now p)) S w w') := Lib.hid fun u hb => (pgive_ok ss ep now hs1 (Thing.next h hb)).mono fun e w' ⟨h1, h2⟩ => ⟨h1, Turn.comp (S' := S) (fun k h => .inl h) (Off.of S hb) h2⟩
    have hgrow := giveP_rowP mo ss ep now p
    obtain ⟨gp1, gp2⟩ := giveI_pos hk h1000 ep
    obtain ⟨v, hv⟩ : ∃ v, atW ss p.row = v := ⟨_, rfl⟩
    rw [hv] at HAT hge hat
    by_cases hre : p.row = []
    · rw [if_pos hre] at hacq
      have hl0 : p.row.length = 0 := by rw [hre]; rfl
      rw [hl0] at HALL
      obtain ⟨id, is, hgi⟩ : ∃ x y, giveI mo ep p = (x, y) := ⟨_, _, rfl⟩
      rw [hgi] at hacq HGV gp1 gp2
      dsimp only at hacq HGV gp1 gp2
      have HPQ : Hid (∀ w4, Turn (PP b mo idl m (giveP mo ss ep now p)) S w w4 → ∃ rb2 : Nat, w4.cell? ⟨b, 4, none⟩ = some (.pointer (some ⟨rb2, 0, none⟩)) ∧ Calls Try.prog 42 #[.pointer (some ⟨rb2, 0, none⟩), .int .i64 ss] w4 fun e w' => e = .returned (.int .i64 (putW m ss p.row).1) ∧ Turn (PP b mo idl m (queueP m ss (giveP mo ss ep now p)).1) S w w') := Lib.hid fun w4 ht => by
        obtain ⟨S4, hp4, hS4⟩ := ht.at_
        obtain ⟨rb2, hr2⟩ := PP.rowc hp4
        obtain ⟨q1, _, _, q4, _⟩ := hr2 w4 (Below.refl _ _)
        have q5 := q4 ss
        rw [hgrow] at q5
        refine ⟨rb2, q1, q5.mono fun e w' ⟨h1, h2⟩ => ⟨h1, ?_⟩⟩
        have e5 : (queueP m ss (giveP mo ss ep now p)).1 = { giveP mo ss ep now p with row := (putW m ss p.row).2 } := by
          unfold queueP
          rw [hgrow]
        rw [e5]
        exact Turn.comp hS4 ht.off h2
      have hq2 : (queueP m ss (giveP mo ss ep now p)).2 = if (putW m ss p.row).1 = 0 then 13 else (putW m ss p.row).1 := by
        unfold queueP
        rw [hgrow]
      rw [hq2] at hacq
      cases is with
      | true =>
        have hidp := gp1 rfl
        have hne : (id != 0) = true := by simp; omega
        rw [if_pos rfl] at hacq
        subst hacq
        clear h hrow hP hAt hv hh gp1 gp2 HPQ HPUT hl0 hre hgi hgrow hidp hq2
        generalize giveP mo ss ep now p = p2 at *
        go_enter Try.func19, Try.ntmps19
        go_wp2_with fail
        refine HAT.out.mono ?_
        rintro e w1 ⟨rfl, hb⟩
        have HC := Lib.hid (HHAS.out w1 hb)
        clear hb
        go_wp2_with fail
        refine HC.out.mono ?_
        rintro e w2 ⟨rfl, hb⟩
        obtain ⟨d4, hall⟩ := HALL.out w2 hb
        have HA2 := Lib.hid hall
        clear hb hall
        go_wp2_with fail
        refine HA2.out.mono ?_
        rintro e w3 ⟨A, n, c, rfl, rfl, hb⟩
        have HG := Lib.hid (HGV.out w3 hb)
        clear hb
        go_wp2_with fail
        refine HG.out.mono ?_
        rintro e w4 ⟨rfl, ht⟩
        have HT := Lib.hid ht
        clear ht
        go_wp2_with fail
        go_ret2
        exact ⟨rfl, HT.out⟩
      | false =>
        have hid0 : id = 0 := gp2 rfl
        subst hid0
        rw [if_neg (by simp)] at hacq
        subst hacq
        clear h hrow hP hAt hv hh gp1 gp2 HPUT hl0 hre hgi hgrow hq2
        generalize (queueP m ss (giveP mo ss ep now p)).1 = p3 at *
        generalize giveP mo ss ep now p = p2 at *
        generalize (putW m ss p.row).1 = pc at *
        by_cases hpc : pc = 0
        · subst hpc
          rw [if_pos rfl]
          go_enter Try.func19, Try.ntmps19
          go_wp2_with fail
          refine HAT.out.mono ?_
          rintro e w1 ⟨rfl, hb⟩
          have HC := Lib.hid (HHAS.out w1 hb)
          clear hb
          go_wp2_with fail
          refine HC.out.mono ?_
          rintro e w2 ⟨rfl, hb⟩
          obtain ⟨d4, hall⟩ := HALL.out w2 hb
          have HA2 := Lib.hid hall
          clear hb hall
          go_wp2_with fail
          refine HA2.out.mono ?_
          rintro e w3 ⟨A, n, c, rfl, rfl, hb⟩
          have HG := Lib.hid (HGV.out w3 hb)
          clear hb
          go_wp2_with fail
          refine HG.out.mono ?_
          rintro e w4 ⟨rfl, ht⟩
          obtain ⟨rb2, f4, hput⟩ := HPQ.out w4 ht
          have HP4 := Lib.hid hput
          clear ht hput
          go_wp2_with fail
          refine HP4.out.mono ?_
          rintro e w5 ⟨rfl, ht⟩
          have HT := Lib.hid ht
          clear ht
          go_wp2_with fail
          go_ret2
          exact ⟨rfl, HT.out⟩
        · rw [if_neg hpc]
          have hpn : (pc != 0) = true := by simpa using hpc
          go_enter Try.func19, Try.ntmps19
          go_wp2_with fail
          refine HAT.out.mono ?_
          rintro e w1 ⟨rfl, hb⟩
          have HC := Lib.hid (HHAS.out w1 hb)
          clear hb
          go_wp2_with fail
          refine HC.out.mono ?_
          rintro e w2 ⟨rfl, hb⟩
          obtain ⟨d4, hall⟩ := HALL.out w2 hb
          have HA2 := Lib.hid hall
          clear hb hall
          go_wp2_with fail
          refine HA2.out.mono ?_
          rintro e w3 ⟨A, n, c, rfl, rfl, hb⟩
          have HG := Lib.hid (HGV.out w3 hb)
          clear hb
          go_wp2_with fail
          refine HG.out.mono ?_
          rintro e w4 ⟨rfl, ht⟩
          obtain ⟨rb2, f4, hput⟩ := HPQ.out w4 ht
          have HP4 := Lib.hid hput
          clear ht hput
          go_wp2_with fail
          refine HP4.out.mono ?_
          rintro e w5 ⟨rfl, ht⟩
          have HT := Lib.hid ht
          clear ht
          go_wp2_with fail
          go_ret2
          exact ⟨rfl, HT.out⟩
    · rw [if_neg hre] at hacq
      have hl0 : ((p.row.length : Int) == 0) = false := by
        cases hr : p.row with
        | nil => exact absurd hr hre
        | cons x r => simp; omega
      have e5 : queueP m ss p = ({ p with row := (putW m ss p.row).2 }, if (putW m ss p.row).1 = 0 then 13 else (putW m ss p.row).1) := rfl
      rw [e5] at hacq
      dsimp only at hacq
      subst hacq
      clear h hrow hP hAt hv hh gp1 gp2 HGV hre e5 hgrow
      generalize ({ p with row := (putW m ss p.row).2 } : Pl) = p3 at *
      generalize (putW m ss p.row).1 = pc at *
      generalize p.row.length = N at *
      by_cases hpc : pc = 0
      · subst hpc
        rw [if_pos rfl]
        go_enter Try.func19, Try.ntmps19
        go_wp2_with fail
        refine HAT.out.mono ?_
        rintro e w1 ⟨rfl, hb⟩
        have HC := Lib.hid (HHAS.out w1 hb)
        clear hb
        go_wp2_with fail
        refine HC.out.mono ?_
        rintro e w2 ⟨rfl, hb⟩
        obtain ⟨d4, hall⟩ := HALL.out w2 hb
        have HA2 := Lib.hid hall
        clear hb hall
        go_wp2_with fail
        refine HA2.out.mono ?_
        rintro e w3 ⟨A, n, c, rfl, rfl, hb⟩
        obtain ⟨f4, hput⟩ := HPUT.out w3 hb
        have HP4 := Lib.hid hput
        clear hb hput
        go_wp2_with fail
        refine HP4.out.mono ?_
        rintro e w5 ⟨rfl, ht⟩
        have HT := Lib.hid ht
        clear ht
        go_wp2_with fail
        go_ret2
        exact ⟨rfl, HT.out⟩
      · rw [if_neg hpc]
        have hpn : (pc != 0) = true := by simpa using hpc
        go_enter Try.func19, Try.ntmps19
        go_wp2_with fail
        refine HAT.out.mono ?_
        rintro e w1 ⟨rfl, hb⟩
        have HC := Lib.hid (HHAS.out w1 hb)
        clear hb
        go_wp2_with fail
        refine HC.out.mono ?_
        rintro e w2 ⟨rfl, hb⟩
        obtain ⟨d4, hall⟩ := HALL.out w2 hb
        have HA2 := Lib.hid hall
        clear hb hall
        go_wp2_with fail
        refine HA2.out.mono ?_
        rintro e w3 ⟨A, n, c, rfl, rfl, hb⟩
        obtain ⟨f4, hput⟩ := HPUT.out w3 hb
        have HP4 := Lib.hid hput
        clear hb hput
        go_wp2_with fail
        refine HP4.out.mono ?_
        rintro e w5 ⟨rfl, ht⟩
        have HT := Lib.hid ht
        clear ht
        go_wp2_with fail
        go_ret2
        exact ⟨rfl, HT.out⟩
end
end

/- The project's layer 10: Serve, New: contracts. -/
section
open Go.RowKit
set_option maxRecDepth 100000

section
variable {b : Nat} {mo idl m : Int} {k : Nat} {p : Pl} {S : Nat → Prop} {w : World}
set_option maxHeartbeats 8000000 in
theorem pserve_ok (ep now : Int) (hk : KInv mo m k p) (h1000 : k ≤ 1000) (h : (PP b mo idl m p).p S w) :
    Calls Try.prog 22 #[.pointer (some ⟨b, 0, none⟩), .int .u64 ep, .int .u64 now] w fun e w' => e = .returned (.tuple #[.int .i64 (serveP mo ep now p).2.1, .int .i64 (serveP mo ep now p).2.2.1, .bool (serveP mo ep now p).2.2.2]) ∧ Turn (PP b mo idl m (serveP mo ep now p).1) S w w' := by
  obtain ⟨rb, hrow⟩ := PP.rowc h
  have H := Lib.hid h
  have hSl := (PP b mo idl m p).lt h
  obtain ⟨P, hP⟩ : ∃ P, serveP mo ep now p = P := ⟨_, rfl⟩
  rw [hP]
  obtain ⟨c4, _, hall, _, _⟩ := hrow w (Below.refl _ _)
  have HALL := Lib.hid hall
  have hserve : serveP mo ep now p = match p.row with
    | [] => (p, 0, 0, false)
    | ss :: r => if (giveI mo ep p).2 then ({ giveP mo ss ep now p with row := r }, ss, (giveI mo ep p).1, true) else (giveP mo ss ep now p, 0, 0, false) := rfl
  rw [hP] at hserve
  cases hr : p.row with
  | nil =>
    rw [hr] at hserve HALL
    have HE : Hid (∀ A n c w', World.ownsRow w' w.heap.size 3 1 (.slice A n c) n (ivs []) → n = 0) := Lib.hid fun A n c w' h => by have := h.1; simp [ivs] at this; omega
    dsimp only at hserve
    subst hserve
    clear h hrow hP hall hr
    go_enter Try.func22, Try.ntmps22
    go_wp2_with fail
    refine HALL.out.mono ?_
    rintro e w1 ⟨A, n, c, rfl, ho, _, hb⟩
    obtain rfl := HE.out A n c w1 ho
    have HB := Lib.hid hb
    clear hb ho
    go_wp2_with fail
    go_ret3
    exact ⟨rfl, Turn.same H.out HB.out⟩
  | cons ss r =>
    rw [hr] at hserve HALL
    dsimp only at hserve
    have hss : 1 ≤ ss := hk.inv.pos ss (by rw [hr]; exact List.mem_cons_self)
    obtain ⟨gp1, gp2⟩ := giveI_pos hk h1000 ep
    have hgrow := giveP_rowP mo ss ep now p
    -- what the copy of the row holds, behind whatever leaves it alone
    have HE : Hid (∀ A n c (w1 : World), w1.ownsRow w.heap.size 3 1 (.slice A n c) n (ivs (ss :: r)) → Below w.heap.size w w1 → ∃ g : Nat, A = some ⟨g, 0, none⟩ ∧ ((n : Int) == 0) = false ∧ (0 : Int) < (n : Int) ∧ w1.cell? ⟨g, 0, none⟩ = some (.int .i64 ss) ∧
        Calls Try.prog 41 #[.pointer (some ⟨b, 0, none⟩), .int .i64 ss, .int .u64 ep, .int .u64 now] w1 fun e w2 => e = .returned (.int .i64 (giveI mo ep p).1) ∧ Turn (PP b mo idl m (giveP mo ss ep now p)) S w w2 ∧ w2.cell? ⟨g, 0, none⟩ = some (.int .i64 ss) ∧
          ∃ rb2 : Nat, w2.cell? ⟨b, 4, none⟩ = some (.pointer (some ⟨rb2, 0, none⟩)) ∧ Calls Try.prog 47 #[.pointer (some ⟨rb2, 0, none⟩)] w2 fun e w3 => (∃ v, e = .returned v) ∧ Turn (PP b mo idl m { giveP mo ss ep now p with row := r }) S w w3 ∧ w3.cell? ⟨g, 0, none⟩ = some (.int .i64 ss)) := Lib.hid fun A n c w1 ho hb => by
      have hlen := ho.1
      rw [ivs_length] at hlen
      simp only [List.length_cons, Nat.mul_one] at hlen
      obtain ⟨g, hA, hc, _, hgl, _⟩ := ivs_cell ho (i := 0) (by simp)
      have hgw : w.heap.size ≤ g := (ho.lt g (by rw [hA]; rfl)).1
      have hc' : w1.cell? ⟨g, 0, none⟩ = some (.int .i64 ss) := hc
      refine ⟨g, hA, by simp only [beq_eq_false_iff_ne]; omega, by omega, hc', ?_⟩
      refine (pgive_ok ss ep now hss (Thing.next H.out hb)).mono ?_
      rintro e w2 ⟨he, ht⟩
      have hgS : ¬ S g := fun e => by have := hSl g e; omega
      have hc2 : w2.cell? ⟨g, 0, none⟩ = some (.int .i64 ss) := (World.cell?_of_block (a := ⟨g, 0, none⟩) (ht.off.block g hgl hgS)).trans hc'
      have hcomp : Turn (PP b mo idl m (giveP mo ss ep now p)) S w w2 := Turn.comp (S' := S) (fun k h => .inl h) (Off.of S hb) ht
      refine ⟨he, hcomp, hc2, ?_⟩
      obtain ⟨S4, hp4, hS4⟩ := ht.at_
      obtain ⟨rb2, hr2⟩ := PP.rowc hp4
      obtain ⟨q1, _, _, _, q5⟩ := hr2 w2 (Below.refl _ _)
      refine ⟨rb2, q1, q5.mono ?_⟩
      rintro e3 w3 ⟨he3, ht3⟩
      have hz2 := ht.off.size
      have hg4 : ¬ S4 g := fun e => (hS4 g e).elim hgS fun e => by omega
      refine ⟨⟨_, he3⟩, ?_, (World.cell?_of_block (a := ⟨g, 0, none⟩) (ht3.off.block g (by omega) hg4)).trans hc2⟩
      have e5 : ({ giveP mo ss ep now p with row := (giveP mo ss ep now p).row.tail } : Pl) = { giveP mo ss ep now p with row := r } := by rw [hgrow, hr]; rfl
      rw [e5] at ht3
      exact Turn.comp (S' := S) (fun k h => .inl h) (Off.of S hb) (Turn.comp hS4 ht.off ht3)
    obtain ⟨id, is, hgi⟩ : ∃ x y, giveI mo ep p = (x, y) := ⟨_, _, rfl⟩
    rw [hgi] at hserve HE gp1 gp2
    dsimp only at hserve HE gp1 gp2
    cases is with
    | true =>
      have hidp := gp1 rfl
      have hne : (id == 0) = false := by simp; omega
      rw [if_pos rfl] at hserve
      subst hserve
      clear h hrow hP hall hr gp1 gp2 hidp hgi hgrow
      generalize giveP mo ss ep now p = p2 at *
      go_enter Try.func22, Try.ntmps22
      go_wp2_with fail
      refine HALL.out.mono ?_
      rintro e w1 ⟨A, n, c, rfl, ho, _, hb⟩
      obtain ⟨g, rfl, l1, l2, x1, hg⟩ := HE.out A n c w1 ho hb
      have HG := Lib.hid hg
      clear hb ho hg HE HALL
      go_wp2_with fail
      refine HG.out.mono ?_
      rintro e w2 ⟨rfl, _, x2, rb2, f4, hT⟩
      have HTK := Lib.hid hT
      clear hT HG
      go_wp2_with fail
      refine HTK.out.mono ?_
      rintro e w3 ⟨⟨v3, rfl⟩, ht, x3⟩
      have HT := Lib.hid ht
      clear ht HTK
      go_wp2_with fail
      go_ret3
      exact ⟨rfl, HT.out⟩
    | false =>
      have hid0 : id = 0 := gp2 rfl
      subst hid0
      rw [if_neg (by simp)] at hserve
      subst hserve
      clear h hrow hP hall hr gp1 gp2 hgi hgrow
      generalize giveP mo ss ep now p = p2 at *
      go_enter Try.func22, Try.ntmps22
      go_wp2_with fail
      refine HALL.out.mono ?_
      rintro e w1 ⟨A, n, c, rfl, ho, _, hb⟩
      obtain ⟨g, rfl, l1, l2, x1, hg⟩ := HE.out A n c w1 ho hb
      have HG := Lib.hid hg
      clear hb ho hg HE HALL
      go_wp2_with fail
      refine HG.out.mono ?_
      rintro e w2 ⟨rfl, ht, x2, _⟩
      have HT := Lib.hid ht
      clear ht HG
      go_wp2_with fail
      go_ret3
      exact ⟨rfl, HT.out⟩
end
theorem ppnew_bad (mo m idl : Int) (w : World) (hb : ¬ (1 ≤ mo ∧ mo ≤ 6 ∧ 0 ≤ m ∧ m ≤ 12 ∧ idl ≠ 0)) :
    Calls Try.prog 9 #[.int .i64 mo, .int .i64 m, .int .u64 idl] w fun e w' => e = .returned (.tuple #[.pointer none, .int .i64 1]) ∧ w = w' := by
  by_cases h1 : mo < 1
  · clear hb
    go_enter Try.func9, Try.ntmps9
    go_wp2_with fail
    go_ret2
    exact ⟨rfl, rfl⟩
  have d1 : decide (mo < 1) = false := decide_eq_false h1
  by_cases h2 : 6 < mo
  · have d2 : decide (6 < mo) = true := decide_eq_true h2
    clear hb
    go_enter Try.func9, Try.ntmps9
    go_wp2_with fail
    go_ret2
    exact ⟨rfl, rfl⟩
  have d2 : decide (6 < mo) = false := decide_eq_false h2
  by_cases h3 : idl = 0
  · have d3 : (idl == 0) = true := by simpa using h3
    subst h3
    clear hb
    go_enter Try.func9, Try.ntmps9
    go_wp2_with fail
    go_ret2
    exact ⟨rfl, rfl⟩
  have d3 : (idl == 0) = false := by simpa using h3
  have HN := Lib.hid (pnew_bad m (by omega) w)
  clear hb h1 h2 h3
  go_enter Try.func9, Try.ntmps9
  go_wp2_with fail
  refine HN.out.mono ?_
  rintro e w1 ⟨rfl, rfl⟩
  go_wp2_with fail
  go_ret2
  exact ⟨rfl, rfl⟩
theorem ppnew_good (mo m idl : Int) (w : World) (h1 : 1 ≤ mo) (h2 : mo ≤ 6) (h3 : 0 ≤ m) (h4 : m ≤ 12) (h5 : idl ≠ 0) :
    Calls Try.prog 9 #[.int .i64 mo, .int .i64 m, .int .u64 idl] w fun e w' => ∃ b S, e = .returned (.tuple #[.pointer (some ⟨b, 0, none⟩), .int .i64 0]) ∧ (PP b mo idl m ⟨[], [], 0⟩).p S w' ∧ (∀ k, S k → w.heap.size ≤ k) ∧ Below w.heap.size w w' := by
  have d1 : decide (mo < 1) = false := decide_eq_false (by omega)
  have d2 : decide (6 < mo) = false := decide_eq_false (by omega)
  have d3 : (idl == 0) = false := by simpa using h5
  have HN := Lib.hid (pnew_good m h3 h4 w)
  have HF : Hid (∀ w1, (PW w.heap.size m []).p (fun k => k = w.heap.size) w1 → Below w.heap.size w w1 → (PP w1.heap.size mo idl m ⟨[], [], 0⟩).p (fun k => k = w.heap.size ∨ k = w1.heap.size) (w1.alloc (.cells #[.slice none 0 0, .int .i64 0, .int .i64 mo, .int .u64 idl, .pointer (some ⟨w.heap.size, 0, none⟩)] 61)) ∧ (∀ k, k = w.heap.size ∨ k = w1.heap.size → w.heap.size ≤ k)) := Lib.hid fun w1 hp hb => by
    have hl := (PW w.heap.size m []).lt hp w.heap.size rfl
    refine ⟨⟨[], none, 0, 0, w.heap.size, fun k => k = w.heap.size, heap_alloc_new _ _, rfl, LL.nil _, Thing.next hp (kp_new _ _), .inr rfl, fun k hk => .inl hk, fun k hk => ?_, fun k hk => ?_, fun k hk => ⟨by omega, fun e => ?_⟩, fun e => ?_, ⟨by simp; omega, h2⟩⟩, fun k hk => by have := hb.size; omega⟩
    · rcases hk with hk | ⟨r, hr, _⟩
      · cases hk
      · cases hr
    · rcases hk with rfl | rfl
      · simp; omega
      · simp
    · rcases e with e | ⟨r, hr, _⟩
      · cases e
      · cases hr
    · rcases e with e | ⟨r, hr, _⟩
      · cases e
      · cases hr
  clear h3 h4 h5
  go_enter Try.func9, Try.ntmps9
  go_wp2_with fail
  refine HN.out.mono ?_
  rintro e w1 ⟨rfl, hp, hb⟩
  obtain ⟨f1, f2⟩ := HF.out w1 hp hb
  have H1 := Lib.hid f1
  have H2 := Lib.hid f2
  have HB := Lib.hid (kp_alloc hb (.cells #[.slice none 0 0, .int .i64 0, .int .i64 mo, .int .u64 idl, .pointer (some ⟨w.heap.size, 0, none⟩)] 61))
  clear hp hb f1 f2 HN HF
  go_wp2_with fail
  go_ret2
  exact ⟨_, _, rfl, H1.out, H2.out, HB.out⟩
end

/- What an act on a pool answers, as a value (no function of the program is named here). -/
section
open Go.RowKit

def told6V (r : Told6) : Value := .agg #[.int .i64 r.a, .int .i64 r.b, .int .u64 r.n, .bool r.i, .int .i64 r.e]
end

/- An act on a pool, the project's: contract. -/
section
open Go.RowKit
set_option maxRecDepth 100000

section
variable {b : Nat} {mo idl m : Int} {k : Nat} {p : Pl} {S : Nat → Prop} {w : World}
set_option maxHeartbeats 8000000 in
theorem dop_ok (t : Act6) (hk : KInv mo m k p) (h1000 : k ≤ 1000) (h : (PP b mo idl m p).p S w) :
    Calls Try.prog 10 #[.pointer (some ⟨b, 0, none⟩), .agg #[.int .i64 t.d, .int .i64 t.ss, .int .i64 t.id, .int .u64 t.ep, .int .u64 t.now, .int .u64 t.n]] w fun e w' => e = .returned (told6V (doT mo idl m t p)) ∧ Turn (PP b mo idl m (doP mo idl m t p)) S w w' := by
  have HW : Hid (∀ o1 o2 o3, (PP b mo idl m p).p S (((w.alloc o1).alloc o2).alloc o3)) := Lib.hid fun o1 o2 o3 => Thing.next h (kp_alloc (kp_alloc (kp_alloc (Below.refl _ w) o1) o2) o3)
  have H := Lib.hid h
  clear h
  obtain ⟨d, ss, id, ep, now, n⟩ := t
  dsimp only
  by_cases h0 : d = 0
  · subst h0
    have hA : doT mo idl m ⟨0, ss, id, ep, now, n⟩ p = ⟨(acqP mo m ss ep now p).2.1, 0, 0, false, (acqP mo m ss ep now p).2.2⟩ := rfl
    have hC : doP mo idl m ⟨0, ss, id, ep, now, n⟩ p = (acqP mo m ss ep now p).1 := rfl
    rw [hA, hC]
    clear hA hC 
    have HC : Hid (∀ o1 o2 o3, Calls Try.prog _ _ (((w.alloc o1).alloc o2).alloc o3) _) := Lib.hid fun o1 o2 o3 => pacq_ok ss ep now hk h1000 (HW.out o1 o2 o3)
    generalize (acqP mo m ss ep now p).2.1 = va at *
    generalize (acqP mo m ss ep now p).2.2 = ve at *
    go_enter Try.func10, Try.ntmps10
    go_wp2_with fail
    refine (HC.out _ _ _).mono ?_
    rintro e w4 ⟨rfl, ht⟩
    obtain ⟨_, b1, b2⟩ := loc3 ht ((PP b mo idl m p).lt H.out)
    obtain ⟨m0, z0⟩ := cellsAt b1 0 (v := .int .i64 0) rfl
    obtain ⟨q0, y0⟩ := cellsAt b2 0 (v := .int .i64 0) rfl
    obtain ⟨m1, z1⟩ := cellsAt b1 1 (v := .int .i64 0) rfl
    obtain ⟨q1, y1⟩ := cellsAt b2 1 (v := .int .i64 0) rfl
    obtain ⟨m2, z2⟩ := cellsAt b1 2 (v := .int .u64 0) rfl
    obtain ⟨q2, y2⟩ := cellsAt b2 2 (v := .int .u64 0) rfl
    obtain ⟨m3, z3⟩ := cellsAt b1 3 (v := .bool false) rfl
    obtain ⟨q3, y3⟩ := cellsAt b2 3 (v := .bool false) rfl
    obtain ⟨m4, z4⟩ := cellsAt b1 4 (v := .int .i64 0) rfl
    obtain ⟨q4, y4⟩ := cellsAt b2 4 (v := .int .i64 0) rfl
    have HT := Lib.hid ht
    clear ht b1 b2 HW HC
    go_wp2_with fail
    refine bodyPost_ret (v := told6V ⟨va, 0, 0, false, ve⟩) ?_ rfl ⟨rfl, turn3 H.out HT.out ((((((((Off.refl (fun k => w.heap.size ≤ k ∧ k < w.heap.size + 3) _).setCell (.inl ⟨by simp; omega, by simp⟩) _).setCell (.inl ⟨by simp; omega, by simp⟩) _).setCell (p := ⟨w.heap.size + 1, 0, none⟩) (.inl ⟨Nat.le_succ _, by show w.heap.size + 1 < w.heap.size + 3; omega⟩) _).setCell (p := ⟨w.heap.size + 1, 1, none⟩) (.inl ⟨Nat.le_succ _, by show w.heap.size + 1 < w.heap.size + 3; omega⟩) _).setCell (p := ⟨w.heap.size + 1, 2, none⟩) (.inl ⟨Nat.le_succ _, by show w.heap.size + 1 < w.heap.size + 3; omega⟩) _).setCell (p := ⟨w.heap.size + 1, 3, none⟩) (.inl ⟨Nat.le_succ _, by show w.heap.size + 1 < w.heap.size + 3; omega⟩) _).setCell (p := ⟨w.heap.size + 1, 4, none⟩) (.inl ⟨Nat.le_succ _, by show w.heap.size + 1 < w.heap.size + 3; omega⟩) _)⟩
    rw [results_cell1 rfl]
    unfold told6V
    go_simp
  · have e0 : (d == 0) = false := by simpa using h0
    by_cases h1 : d = 1
    · subst h1
      have hA : doT mo idl m ⟨1, ss, id, ep, now, n⟩ p = ⟨(serveP mo ep now p).2.1, (serveP mo ep now p).2.2.1, 0, (serveP mo ep now p).2.2.2, 0⟩ := rfl
      have hC : doP mo idl m ⟨1, ss, id, ep, now, n⟩ p = (serveP mo ep now p).1 := rfl
      rw [hA, hC]
      clear hA hC h0
      have HC : Hid (∀ o1 o2 o3, Calls Try.prog _ _ (((w.alloc o1).alloc o2).alloc o3) _) := Lib.hid fun o1 o2 o3 => pserve_ok ep now hk h1000 (HW.out o1 o2 o3)
      generalize (serveP mo ep now p).2.1 = va at *
      generalize (serveP mo ep now p).2.2.1 = vb at *
      generalize (serveP mo ep now p).2.2.2 = vi at *
      go_enter Try.func10, Try.ntmps10
      go_wp2_with fail
      refine (HC.out _ _ _).mono ?_
      rintro e w4 ⟨rfl, ht⟩
      obtain ⟨_, b1, b2⟩ := loc3 ht ((PP b mo idl m p).lt H.out)
      obtain ⟨m0, z0⟩ := cellsAt b1 0 (v := .int .i64 0) rfl
      obtain ⟨q0, y0⟩ := cellsAt b2 0 (v := .int .i64 0) rfl
      obtain ⟨m1, z1⟩ := cellsAt b1 1 (v := .int .i64 0) rfl
      obtain ⟨q1, y1⟩ := cellsAt b2 1 (v := .int .i64 0) rfl
      obtain ⟨m2, z2⟩ := cellsAt b1 2 (v := .int .u64 0) rfl
      obtain ⟨q2, y2⟩ := cellsAt b2 2 (v := .int .u64 0) rfl
      obtain ⟨m3, z3⟩ := cellsAt b1 3 (v := .bool false) rfl
      obtain ⟨q3, y3⟩ := cellsAt b2 3 (v := .bool false) rfl
      obtain ⟨m4, z4⟩ := cellsAt b1 4 (v := .int .i64 0) rfl
      obtain ⟨q4, y4⟩ := cellsAt b2 4 (v := .int .i64 0) rfl
      have HT := Lib.hid ht
      clear ht b1 b2 HW HC
      go_wp2_with fail
      refine bodyPost_ret (v := told6V ⟨va, vb, 0, vi, 0⟩) ?_ rfl ⟨rfl, turn3 H.out HT.out (((((((((Off.refl (fun k => w.heap.size ≤ k ∧ k < w.heap.size + 3) _).setCell (.inl ⟨by simp; omega, by simp⟩) _).setCell (.inl ⟨by simp; omega, by simp⟩) _).setCell (.inl ⟨by simp; omega, by simp⟩) _).setCell (p := ⟨w.heap.size + 1, 0, none⟩) (.inl ⟨Nat.le_succ _, by show w.heap.size + 1 < w.heap.size + 3; omega⟩) _).setCell (p := ⟨w.heap.size + 1, 1, none⟩) (.inl ⟨Nat.le_succ _, by show w.heap.size + 1 < w.heap.size + 3; omega⟩) _).setCell (p := ⟨w.heap.size + 1, 2, none⟩) (.inl ⟨Nat.le_succ _, by show w.heap.size + 1 < w.heap.size + 3; omega⟩) _).setCell (p := ⟨w.heap.size + 1, 3, none⟩) (.inl ⟨Nat.le_succ _, by show w.heap.size + 1 < w.heap.size + 3; omega⟩) _).setCell (p := ⟨w.heap.size + 1, 4, none⟩) (.inl ⟨Nat.le_succ _, by show w.heap.size + 1 < w.heap.size + 3; omega⟩) _)⟩
      rw [results_cell1 rfl]
      unfold told6V
      go_simp
    · have e1 : (d == 1) = false := by simpa using h1
      by_cases h2 : d = 2
      · subst h2
        have hA : doT mo idl m ⟨2, ss, id, ep, now, n⟩ p = ⟨0, 0, 0, decide (0 ≤ atW ss p.row), 0⟩ := rfl
        have hC : doP mo idl m ⟨2, ss, id, ep, now, n⟩ p = { p with row := dropW ss p.row } := rfl
        rw [hA, hC]
        clear hA hC h0 h1
        have HC : Hid (∀ o1 o2 o3, Calls Try.prog _ _ (((w.alloc o1).alloc o2).alloc o3) _) := Lib.hid fun o1 o2 o3 => pleave_ok ss (HW.out o1 o2 o3)
        generalize decide (0 ≤ atW ss p.row) = vi at *
        go_enter Try.func10, Try.ntmps10
        go_wp2_with fail
        refine (HC.out _ _ _).mono ?_
        rintro e w4 ⟨rfl, ht⟩
        obtain ⟨_, b1, b2⟩ := loc3 ht ((PP b mo idl m p).lt H.out)
        obtain ⟨m0, z0⟩ := cellsAt b1 0 (v := .int .i64 0) rfl
        obtain ⟨q0, y0⟩ := cellsAt b2 0 (v := .int .i64 0) rfl
        obtain ⟨m1, z1⟩ := cellsAt b1 1 (v := .int .i64 0) rfl
        obtain ⟨q1, y1⟩ := cellsAt b2 1 (v := .int .i64 0) rfl
        obtain ⟨m2, z2⟩ := cellsAt b1 2 (v := .int .u64 0) rfl
        obtain ⟨q2, y2⟩ := cellsAt b2 2 (v := .int .u64 0) rfl
        obtain ⟨m3, z3⟩ := cellsAt b1 3 (v := .bool false) rfl
        obtain ⟨q3, y3⟩ := cellsAt b2 3 (v := .bool false) rfl
        obtain ⟨m4, z4⟩ := cellsAt b1 4 (v := .int .i64 0) rfl
        obtain ⟨q4, y4⟩ := cellsAt b2 4 (v := .int .i64 0) rfl
        have HT := Lib.hid ht
        clear ht b1 b2 HW HC
        go_wp2_with fail
        refine bodyPost_ret (v := told6V ⟨0, 0, 0, vi, 0⟩) ?_ rfl ⟨rfl, turn3 H.out HT.out (((((((Off.refl (fun k => w.heap.size ≤ k ∧ k < w.heap.size + 3) _).setCell (.inl ⟨by simp; omega, by simp⟩) _).setCell (p := ⟨w.heap.size + 1, 0, none⟩) (.inl ⟨Nat.le_succ _, by show w.heap.size + 1 < w.heap.size + 3; omega⟩) _).setCell (p := ⟨w.heap.size + 1, 1, none⟩) (.inl ⟨Nat.le_succ _, by show w.heap.size + 1 < w.heap.size + 3; omega⟩) _).setCell (p := ⟨w.heap.size + 1, 2, none⟩) (.inl ⟨Nat.le_succ _, by show w.heap.size + 1 < w.heap.size + 3; omega⟩) _).setCell (p := ⟨w.heap.size + 1, 3, none⟩) (.inl ⟨Nat.le_succ _, by show w.heap.size + 1 < w.heap.size + 3; omega⟩) _).setCell (p := ⟨w.heap.size + 1, 4, none⟩) (.inl ⟨Nat.le_succ _, by show w.heap.size + 1 < w.heap.size + 3; omega⟩) _)⟩
        rw [results_cell1 rfl]
        unfold told6V
        go_simp
      · have e2 : (d == 2) = false := by simpa using h2
        by_cases h3 : d = 3
        · subst h3
          have hA : doT mo idl m ⟨3, ss, id, ep, now, n⟩ p = ⟨0, 0, 0, false, (sendP id n p).2⟩ := rfl
          have hC : doP mo idl m ⟨3, ss, id, ep, now, n⟩ p = (sendP id n p).1 := rfl
          rw [hA, hC]
          clear hA hC h0 h1 h2
          have HC : Hid (∀ o1 o2 o3, Calls Try.prog _ _ (((w.alloc o1).alloc o2).alloc o3) _) := Lib.hid fun o1 o2 o3 => ppsend_ok id n hk (HW.out o1 o2 o3)
          generalize (sendP id n p).2 = ve at *
          go_enter Try.func10, Try.ntmps10
          go_wp2_with fail
          refine (HC.out _ _ _).mono ?_
          rintro e w4 ⟨rfl, ht⟩
          obtain ⟨_, b1, b2⟩ := loc3 ht ((PP b mo idl m p).lt H.out)
          obtain ⟨m0, z0⟩ := cellsAt b1 0 (v := .int .i64 0) rfl
          obtain ⟨q0, y0⟩ := cellsAt b2 0 (v := .int .i64 0) rfl
          obtain ⟨m1, z1⟩ := cellsAt b1 1 (v := .int .i64 0) rfl
          obtain ⟨q1, y1⟩ := cellsAt b2 1 (v := .int .i64 0) rfl
          obtain ⟨m2, z2⟩ := cellsAt b1 2 (v := .int .u64 0) rfl
          obtain ⟨q2, y2⟩ := cellsAt b2 2 (v := .int .u64 0) rfl
          obtain ⟨m3, z3⟩ := cellsAt b1 3 (v := .bool false) rfl
          obtain ⟨q3, y3⟩ := cellsAt b2 3 (v := .bool false) rfl
          obtain ⟨m4, z4⟩ := cellsAt b1 4 (v := .int .i64 0) rfl
          obtain ⟨q4, y4⟩ := cellsAt b2 4 (v := .int .i64 0) rfl
          have HT := Lib.hid ht
          clear ht b1 b2 HW HC
          go_wp2_with fail
          refine bodyPost_ret (v := told6V ⟨0, 0, 0, false, ve⟩) ?_ rfl ⟨rfl, turn3 H.out HT.out (((((((Off.refl (fun k => w.heap.size ≤ k ∧ k < w.heap.size + 3) _).setCell (.inl ⟨by simp; omega, by simp⟩) _).setCell (p := ⟨w.heap.size + 1, 0, none⟩) (.inl ⟨Nat.le_succ _, by show w.heap.size + 1 < w.heap.size + 3; omega⟩) _).setCell (p := ⟨w.heap.size + 1, 1, none⟩) (.inl ⟨Nat.le_succ _, by show w.heap.size + 1 < w.heap.size + 3; omega⟩) _).setCell (p := ⟨w.heap.size + 1, 2, none⟩) (.inl ⟨Nat.le_succ _, by show w.heap.size + 1 < w.heap.size + 3; omega⟩) _).setCell (p := ⟨w.heap.size + 1, 3, none⟩) (.inl ⟨Nat.le_succ _, by show w.heap.size + 1 < w.heap.size + 3; omega⟩) _).setCell (p := ⟨w.heap.size + 1, 4, none⟩) (.inl ⟨Nat.le_succ _, by show w.heap.size + 1 < w.heap.size + 3; omega⟩) _)⟩
          rw [results_cell1 rfl]
          unfold told6V
          go_simp
        · have e3 : (d == 3) = false := by simpa using h3
          by_cases h4 : d = 4
          · subst h4
            have hA : doT mo idl m ⟨4, ss, id, ep, now, n⟩ p = ⟨0, 0, 0, (replyP id n p).2, 0⟩ := rfl
            have hC : doP mo idl m ⟨4, ss, id, ep, now, n⟩ p = (replyP id n p).1 := rfl
            rw [hA, hC]
            clear hA hC h0 h1 h2 h3
            have HC : Hid (∀ o1 o2 o3, Calls Try.prog _ _ (((w.alloc o1).alloc o2).alloc o3) _) := Lib.hid fun o1 o2 o3 => ppreply_ok id n hk (HW.out o1 o2 o3)
            generalize (replyP id n p).2 = vi at *
            go_enter Try.func10, Try.ntmps10
            go_wp2_with fail
            refine (HC.out _ _ _).mono ?_
            rintro e w4 ⟨rfl, ht⟩
            obtain ⟨_, b1, b2⟩ := loc3 ht ((PP b mo idl m p).lt H.out)
            obtain ⟨m0, z0⟩ := cellsAt b1 0 (v := .int .i64 0) rfl
            obtain ⟨q0, y0⟩ := cellsAt b2 0 (v := .int .i64 0) rfl
            obtain ⟨m1, z1⟩ := cellsAt b1 1 (v := .int .i64 0) rfl
            obtain ⟨q1, y1⟩ := cellsAt b2 1 (v := .int .i64 0) rfl
            obtain ⟨m2, z2⟩ := cellsAt b1 2 (v := .int .u64 0) rfl
            obtain ⟨q2, y2⟩ := cellsAt b2 2 (v := .int .u64 0) rfl
            obtain ⟨m3, z3⟩ := cellsAt b1 3 (v := .bool false) rfl
            obtain ⟨q3, y3⟩ := cellsAt b2 3 (v := .bool false) rfl
            obtain ⟨m4, z4⟩ := cellsAt b1 4 (v := .int .i64 0) rfl
            obtain ⟨q4, y4⟩ := cellsAt b2 4 (v := .int .i64 0) rfl
            have HT := Lib.hid ht
            clear ht b1 b2 HW HC
            go_wp2_with fail
            refine bodyPost_ret (v := told6V ⟨0, 0, 0, vi, 0⟩) ?_ rfl ⟨rfl, turn3 H.out HT.out (((((((Off.refl (fun k => w.heap.size ≤ k ∧ k < w.heap.size + 3) _).setCell (.inl ⟨by simp; omega, by simp⟩) _).setCell (p := ⟨w.heap.size + 1, 0, none⟩) (.inl ⟨Nat.le_succ _, by show w.heap.size + 1 < w.heap.size + 3; omega⟩) _).setCell (p := ⟨w.heap.size + 1, 1, none⟩) (.inl ⟨Nat.le_succ _, by show w.heap.size + 1 < w.heap.size + 3; omega⟩) _).setCell (p := ⟨w.heap.size + 1, 2, none⟩) (.inl ⟨Nat.le_succ _, by show w.heap.size + 1 < w.heap.size + 3; omega⟩) _).setCell (p := ⟨w.heap.size + 1, 3, none⟩) (.inl ⟨Nat.le_succ _, by show w.heap.size + 1 < w.heap.size + 3; omega⟩) _).setCell (p := ⟨w.heap.size + 1, 4, none⟩) (.inl ⟨Nat.le_succ _, by show w.heap.size + 1 < w.heap.size + 3; omega⟩) _)⟩
            rw [results_cell1 rfl]
            unfold told6V
            go_simp
          · have e4 : (d == 4) = false := by simpa using h4
            by_cases h5 : d = 5
            · subst h5
              have hA : doT mo idl m ⟨5, ss, id, ep, now, n⟩ p = ⟨0, 0, 0, (soilP id p).2, 0⟩ := rfl
              have hC : doP mo idl m ⟨5, ss, id, ep, now, n⟩ p = (soilP id p).1 := rfl
              rw [hA, hC]
              clear hA hC h0 h1 h2 h3 h4
              have HC : Hid (∀ o1 o2 o3, Calls Try.prog _ _ (((w.alloc o1).alloc o2).alloc o3) _) := Lib.hid fun o1 o2 o3 => ppsoil_ok id hk (HW.out o1 o2 o3)
              generalize (soilP id p).2 = vi at *
              go_enter Try.func10, Try.ntmps10
              go_wp2_with fail
              refine (HC.out _ _ _).mono ?_
              rintro e w4 ⟨rfl, ht⟩
              obtain ⟨_, b1, b2⟩ := loc3 ht ((PP b mo idl m p).lt H.out)
              obtain ⟨m0, z0⟩ := cellsAt b1 0 (v := .int .i64 0) rfl
              obtain ⟨q0, y0⟩ := cellsAt b2 0 (v := .int .i64 0) rfl
              obtain ⟨m1, z1⟩ := cellsAt b1 1 (v := .int .i64 0) rfl
              obtain ⟨q1, y1⟩ := cellsAt b2 1 (v := .int .i64 0) rfl
              obtain ⟨m2, z2⟩ := cellsAt b1 2 (v := .int .u64 0) rfl
              obtain ⟨q2, y2⟩ := cellsAt b2 2 (v := .int .u64 0) rfl
              obtain ⟨m3, z3⟩ := cellsAt b1 3 (v := .bool false) rfl
              obtain ⟨q3, y3⟩ := cellsAt b2 3 (v := .bool false) rfl
              obtain ⟨m4, z4⟩ := cellsAt b1 4 (v := .int .i64 0) rfl
              obtain ⟨q4, y4⟩ := cellsAt b2 4 (v := .int .i64 0) rfl
              have HT := Lib.hid ht
              clear ht b1 b2 HW HC
              go_wp2_with fail
              refine bodyPost_ret (v := told6V ⟨0, 0, 0, vi, 0⟩) ?_ rfl ⟨rfl, turn3 H.out HT.out (((((((Off.refl (fun k => w.heap.size ≤ k ∧ k < w.heap.size + 3) _).setCell (.inl ⟨by simp; omega, by simp⟩) _).setCell (p := ⟨w.heap.size + 1, 0, none⟩) (.inl ⟨Nat.le_succ _, by show w.heap.size + 1 < w.heap.size + 3; omega⟩) _).setCell (p := ⟨w.heap.size + 1, 1, none⟩) (.inl ⟨Nat.le_succ _, by show w.heap.size + 1 < w.heap.size + 3; omega⟩) _).setCell (p := ⟨w.heap.size + 1, 2, none⟩) (.inl ⟨Nat.le_succ _, by show w.heap.size + 1 < w.heap.size + 3; omega⟩) _).setCell (p := ⟨w.heap.size + 1, 3, none⟩) (.inl ⟨Nat.le_succ _, by show w.heap.size + 1 < w.heap.size + 3; omega⟩) _).setCell (p := ⟨w.heap.size + 1, 4, none⟩) (.inl ⟨Nat.le_succ _, by show w.heap.size + 1 < w.heap.size + 3; omega⟩) _)⟩
              rw [results_cell1 rfl]
              unfold told6V
              go_simp
            · have e5 : (d == 5) = false := by simpa using h5
              by_cases h6 : d = 6
              · subst h6
                have hA : doT mo idl m ⟨6, ss, id, ep, now, n⟩ p = ⟨0, 0, 0, (releaseP id now p).2, 0⟩ := rfl
                have hC : doP mo idl m ⟨6, ss, id, ep, now, n⟩ p = (releaseP id now p).1 := rfl
                rw [hA, hC]
                clear hA hC h0 h1 h2 h3 h4 h5
                have HC : Hid (∀ o1 o2 o3, Calls Try.prog _ _ (((w.alloc o1).alloc o2).alloc o3) _) := Lib.hid fun o1 o2 o3 => pprelease_ok id now hk (HW.out o1 o2 o3)
                generalize (releaseP id now p).2 = vi at *
                go_enter Try.func10, Try.ntmps10
                go_wp2_with fail
                refine (HC.out _ _ _).mono ?_
                rintro e w4 ⟨rfl, ht⟩
                obtain ⟨_, b1, b2⟩ := loc3 ht ((PP b mo idl m p).lt H.out)
                obtain ⟨m0, z0⟩ := cellsAt b1 0 (v := .int .i64 0) rfl
                obtain ⟨q0, y0⟩ := cellsAt b2 0 (v := .int .i64 0) rfl
                obtain ⟨m1, z1⟩ := cellsAt b1 1 (v := .int .i64 0) rfl
                obtain ⟨q1, y1⟩ := cellsAt b2 1 (v := .int .i64 0) rfl
                obtain ⟨m2, z2⟩ := cellsAt b1 2 (v := .int .u64 0) rfl
                obtain ⟨q2, y2⟩ := cellsAt b2 2 (v := .int .u64 0) rfl
                obtain ⟨m3, z3⟩ := cellsAt b1 3 (v := .bool false) rfl
                obtain ⟨q3, y3⟩ := cellsAt b2 3 (v := .bool false) rfl
                obtain ⟨m4, z4⟩ := cellsAt b1 4 (v := .int .i64 0) rfl
                obtain ⟨q4, y4⟩ := cellsAt b2 4 (v := .int .i64 0) rfl
                have HT := Lib.hid ht
                clear ht b1 b2 HW HC
                go_wp2_with fail
                refine bodyPost_ret (v := told6V ⟨0, 0, 0, vi, 0⟩) ?_ rfl ⟨rfl, turn3 H.out HT.out (((((((Off.refl (fun k => w.heap.size ≤ k ∧ k < w.heap.size + 3) _).setCell (.inl ⟨by simp; omega, by simp⟩) _).setCell (p := ⟨w.heap.size + 1, 0, none⟩) (.inl ⟨Nat.le_succ _, by show w.heap.size + 1 < w.heap.size + 3; omega⟩) _).setCell (p := ⟨w.heap.size + 1, 1, none⟩) (.inl ⟨Nat.le_succ _, by show w.heap.size + 1 < w.heap.size + 3; omega⟩) _).setCell (p := ⟨w.heap.size + 1, 2, none⟩) (.inl ⟨Nat.le_succ _, by show w.heap.size + 1 < w.heap.size + 3; omega⟩) _).setCell (p := ⟨w.heap.size + 1, 3, none⟩) (.inl ⟨Nat.le_succ _, by show w.heap.size + 1 < w.heap.size + 3; omega⟩) _).setCell (p := ⟨w.heap.size + 1, 4, none⟩) (.inl ⟨Nat.le_succ _, by show w.heap.size + 1 < w.heap.size + 3; omega⟩) _)⟩
                rw [results_cell1 rfl]
                unfold told6V
                go_simp
              · have e6 : (d == 6) = false := by simpa using h6
                by_cases h7 : d = 7
                · subst h7
                  have hA : doT mo idl m ⟨7, ss, id, ep, now, n⟩ p = ⟨(breakP id p).2.2.1, 0, (breakP id p).2.1, (breakP id p).2.2.2, 0⟩ := rfl
                  have hC : doP mo idl m ⟨7, ss, id, ep, now, n⟩ p = (breakP id p).1 := rfl
                  rw [hA, hC]
                  clear hA hC h0 h1 h2 h3 h4 h5 h6
                  have HC : Hid (∀ o1 o2 o3, Calls Try.prog _ _ (((w.alloc o1).alloc o2).alloc o3) _) := Lib.hid fun o1 o2 o3 => ppbreak_ok id hk (HW.out o1 o2 o3)
                  generalize (breakP id p).2.1 = vn at *
                  generalize (breakP id p).2.2.1 = va at *
                  generalize (breakP id p).2.2.2 = vi at *
                  go_enter Try.func10, Try.ntmps10
                  go_wp2_with fail
                  refine (HC.out _ _ _).mono ?_
                  rintro e w4 ⟨rfl, ht⟩
                  obtain ⟨_, b1, b2⟩ := loc3 ht ((PP b mo idl m p).lt H.out)
                  obtain ⟨m0, z0⟩ := cellsAt b1 0 (v := .int .i64 0) rfl
                  obtain ⟨q0, y0⟩ := cellsAt b2 0 (v := .int .i64 0) rfl
                  obtain ⟨m1, z1⟩ := cellsAt b1 1 (v := .int .i64 0) rfl
                  obtain ⟨q1, y1⟩ := cellsAt b2 1 (v := .int .i64 0) rfl
                  obtain ⟨m2, z2⟩ := cellsAt b1 2 (v := .int .u64 0) rfl
                  obtain ⟨q2, y2⟩ := cellsAt b2 2 (v := .int .u64 0) rfl
                  obtain ⟨m3, z3⟩ := cellsAt b1 3 (v := .bool false) rfl
                  obtain ⟨q3, y3⟩ := cellsAt b2 3 (v := .bool false) rfl
                  obtain ⟨m4, z4⟩ := cellsAt b1 4 (v := .int .i64 0) rfl
                  obtain ⟨q4, y4⟩ := cellsAt b2 4 (v := .int .i64 0) rfl
                  have HT := Lib.hid ht
                  clear ht b1 b2 HW HC
                  go_wp2_with fail
                  refine bodyPost_ret (v := told6V ⟨va, 0, vn, vi, 0⟩) ?_ rfl ⟨rfl, turn3 H.out HT.out (((((((((Off.refl (fun k => w.heap.size ≤ k ∧ k < w.heap.size + 3) _).setCell (.inl ⟨by simp; omega, by simp⟩) _).setCell (.inl ⟨by simp; omega, by simp⟩) _).setCell (.inl ⟨by simp; omega, by simp⟩) _).setCell (p := ⟨w.heap.size + 1, 0, none⟩) (.inl ⟨Nat.le_succ _, by show w.heap.size + 1 < w.heap.size + 3; omega⟩) _).setCell (p := ⟨w.heap.size + 1, 1, none⟩) (.inl ⟨Nat.le_succ _, by show w.heap.size + 1 < w.heap.size + 3; omega⟩) _).setCell (p := ⟨w.heap.size + 1, 2, none⟩) (.inl ⟨Nat.le_succ _, by show w.heap.size + 1 < w.heap.size + 3; omega⟩) _).setCell (p := ⟨w.heap.size + 1, 3, none⟩) (.inl ⟨Nat.le_succ _, by show w.heap.size + 1 < w.heap.size + 3; omega⟩) _).setCell (p := ⟨w.heap.size + 1, 4, none⟩) (.inl ⟨Nat.le_succ _, by show w.heap.size + 1 < w.heap.size + 3; omega⟩) _)⟩
                  rw [results_cell1 rfl]
                  unfold told6V
                  go_simp
                · have e7 : (d == 7) = false := by simpa using h7
                  by_cases h8 : d = 8
                  · subst h8
                    have hA : doT mo idl m ⟨8, ss, id, ep, now, n⟩ p = ⟨0, 0, 0, false, 0⟩ := rfl
                    have hC : doP mo idl m ⟨8, ss, id, ep, now, n⟩ p = drainP ep p := rfl
                    rw [hA, hC]
                    clear hA hC h0 h1 h2 h3 h4 h5 h6 h7
                    have HC : Hid (∀ o1 o2 o3, Calls Try.prog _ _ (((w.alloc o1).alloc o2).alloc o3) _) := Lib.hid fun o1 o2 o3 => ppdrain_ok ep (HW.out o1 o2 o3)
                    go_enter Try.func10, Try.ntmps10
                    go_wp2_with fail
                    refine (HC.out _ _ _).mono ?_
                    rintro e w4 ⟨rfl, ht⟩
                    obtain ⟨_, b1, b2⟩ := loc3 ht ((PP b mo idl m p).lt H.out)
                    obtain ⟨m0, z0⟩ := cellsAt b1 0 (v := .int .i64 0) rfl
                    obtain ⟨q0, y0⟩ := cellsAt b2 0 (v := .int .i64 0) rfl
                    obtain ⟨m1, z1⟩ := cellsAt b1 1 (v := .int .i64 0) rfl
                    obtain ⟨q1, y1⟩ := cellsAt b2 1 (v := .int .i64 0) rfl
                    obtain ⟨m2, z2⟩ := cellsAt b1 2 (v := .int .u64 0) rfl
                    obtain ⟨q2, y2⟩ := cellsAt b2 2 (v := .int .u64 0) rfl
                    obtain ⟨m3, z3⟩ := cellsAt b1 3 (v := .bool false) rfl
                    obtain ⟨q3, y3⟩ := cellsAt b2 3 (v := .bool false) rfl
                    obtain ⟨m4, z4⟩ := cellsAt b1 4 (v := .int .i64 0) rfl
                    obtain ⟨q4, y4⟩ := cellsAt b2 4 (v := .int .i64 0) rfl
                    have HT := Lib.hid ht
                    clear ht b1 b2 HW HC
                    go_wp2_with fail
                    refine bodyPost_ret (v := told6V ⟨0, 0, 0, false, 0⟩) ?_ rfl ⟨rfl, turn3 H.out HT.out ((((((Off.refl (fun k => w.heap.size ≤ k ∧ k < w.heap.size + 3) _).setCell (p := ⟨w.heap.size + 1, 0, none⟩) (.inl ⟨Nat.le_succ _, by show w.heap.size + 1 < w.heap.size + 3; omega⟩) _).setCell (p := ⟨w.heap.size + 1, 1, none⟩) (.inl ⟨Nat.le_succ _, by show w.heap.size + 1 < w.heap.size + 3; omega⟩) _).setCell (p := ⟨w.heap.size + 1, 2, none⟩) (.inl ⟨Nat.le_succ _, by show w.heap.size + 1 < w.heap.size + 3; omega⟩) _).setCell (p := ⟨w.heap.size + 1, 3, none⟩) (.inl ⟨Nat.le_succ _, by show w.heap.size + 1 < w.heap.size + 3; omega⟩) _).setCell (p := ⟨w.heap.size + 1, 4, none⟩) (.inl ⟨Nat.le_succ _, by show w.heap.size + 1 < w.heap.size + 3; omega⟩) _)⟩
                    rw [results_cell1 rfl]
                    unfold told6V
                    go_simp
                  · have e8 : (d == 8) = false := by simpa using h8
                    by_cases h9 : d = 9
                    · subst h9
                      have hA : doT mo idl m ⟨9, ss, id, ep, now, n⟩ p = ⟨(reapP idl now p).2, 0, 0, false, 0⟩ := rfl
                      have hC : doP mo idl m ⟨9, ss, id, ep, now, n⟩ p = (reapP idl now p).1 := rfl
                      rw [hA, hC]
                      clear hA hC h0 h1 h2 h3 h4 h5 h6 h7 h8
                      have HC : Hid (∀ o1 o2 o3, Calls Try.prog _ _ (((w.alloc o1).alloc o2).alloc o3) _) := Lib.hid fun o1 o2 o3 => ppreap_ok now hk (HW.out o1 o2 o3)
                      generalize (reapP idl now p).2 = va at *
                      go_enter Try.func10, Try.ntmps10
                      go_wp2_with fail
                      refine (HC.out _ _ _).mono ?_
                      rintro e w4 ⟨rfl, ht⟩
                      obtain ⟨_, b1, b2⟩ := loc3 ht ((PP b mo idl m p).lt H.out)
                      obtain ⟨m0, z0⟩ := cellsAt b1 0 (v := .int .i64 0) rfl
                      obtain ⟨q0, y0⟩ := cellsAt b2 0 (v := .int .i64 0) rfl
                      obtain ⟨m1, z1⟩ := cellsAt b1 1 (v := .int .i64 0) rfl
                      obtain ⟨q1, y1⟩ := cellsAt b2 1 (v := .int .i64 0) rfl
                      obtain ⟨m2, z2⟩ := cellsAt b1 2 (v := .int .u64 0) rfl
                      obtain ⟨q2, y2⟩ := cellsAt b2 2 (v := .int .u64 0) rfl
                      obtain ⟨m3, z3⟩ := cellsAt b1 3 (v := .bool false) rfl
                      obtain ⟨q3, y3⟩ := cellsAt b2 3 (v := .bool false) rfl
                      obtain ⟨m4, z4⟩ := cellsAt b1 4 (v := .int .i64 0) rfl
                      obtain ⟨q4, y4⟩ := cellsAt b2 4 (v := .int .i64 0) rfl
                      have HT := Lib.hid ht
                      clear ht b1 b2 HW HC
                      go_wp2_with fail
                      refine bodyPost_ret (v := told6V ⟨va, 0, 0, false, 0⟩) ?_ rfl ⟨rfl, turn3 H.out HT.out (((((((Off.refl (fun k => w.heap.size ≤ k ∧ k < w.heap.size + 3) _).setCell (.inl ⟨by simp; omega, by simp⟩) _).setCell (p := ⟨w.heap.size + 1, 0, none⟩) (.inl ⟨Nat.le_succ _, by show w.heap.size + 1 < w.heap.size + 3; omega⟩) _).setCell (p := ⟨w.heap.size + 1, 1, none⟩) (.inl ⟨Nat.le_succ _, by show w.heap.size + 1 < w.heap.size + 3; omega⟩) _).setCell (p := ⟨w.heap.size + 1, 2, none⟩) (.inl ⟨Nat.le_succ _, by show w.heap.size + 1 < w.heap.size + 3; omega⟩) _).setCell (p := ⟨w.heap.size + 1, 3, none⟩) (.inl ⟨Nat.le_succ _, by show w.heap.size + 1 < w.heap.size + 3; omega⟩) _).setCell (p := ⟨w.heap.size + 1, 4, none⟩) (.inl ⟨Nat.le_succ _, by show w.heap.size + 1 < w.heap.size + 3; omega⟩) _)⟩
                      rw [results_cell1 rfl]
                      unfold told6V
                      go_simp
                    · have e9 : (d == 9) = false := by simpa using h9
                      have hA : doT mo idl m ⟨d, ss, id, ep, now, n⟩ p = ⟨0, 0, 0, false, 0⟩ := by simp [doT, h0, h1, h2, h3, h4, h5, h6, h7, h8, h9]
                      have hC : doP mo idl m ⟨d, ss, id, ep, now, n⟩ p = p := by simp [doP, h0, h1, h2, h3, h4, h5, h6, h7, h8, h9]
                      rw [hA, hC]
                      clear hA hC h0 h1 h2 h3 h4 h5 h6 h7 h8 h9
                      go_enter Try.func10, Try.ntmps10
                      have ht := Turn.here (HW.out (.cells #[.int .i64 d, .int .i64 ss, .int .i64 id, .int .u64 ep, .int .u64 now, .int .u64 n] 30) (.cells #[.int .i64 0, .int .i64 0, .int .u64 0, .bool false, .int .i64 0] 32) (.cells #[.int .i64 0, .int .i64 0, .int .u64 0, .bool false, .int .i64 0] 32))
                      obtain ⟨_, b1, b2⟩ := loc3 ht ((PP b mo idl m p).lt H.out)
                      obtain ⟨m0, z0⟩ := cellsAt b1 0 (v := .int .i64 0) rfl
                      obtain ⟨q0, y0⟩ := cellsAt b2 0 (v := .int .i64 0) rfl
                      obtain ⟨m1, z1⟩ := cellsAt b1 1 (v := .int .i64 0) rfl
                      obtain ⟨q1, y1⟩ := cellsAt b2 1 (v := .int .i64 0) rfl
                      obtain ⟨m2, z2⟩ := cellsAt b1 2 (v := .int .u64 0) rfl
                      obtain ⟨q2, y2⟩ := cellsAt b2 2 (v := .int .u64 0) rfl
                      obtain ⟨m3, z3⟩ := cellsAt b1 3 (v := .bool false) rfl
                      obtain ⟨q3, y3⟩ := cellsAt b2 3 (v := .bool false) rfl
                      obtain ⟨m4, z4⟩ := cellsAt b1 4 (v := .int .i64 0) rfl
                      obtain ⟨q4, y4⟩ := cellsAt b2 4 (v := .int .i64 0) rfl
                      have HT := Lib.hid ht
                      clear ht b1 b2 HW
                      go_wp2_with fail
                      refine bodyPost_ret (v := told6V ⟨0, 0, 0, false, 0⟩) ?_ rfl ⟨rfl, turn3 H.out HT.out (Off.refl (fun k => w.heap.size ≤ k ∧ k < w.heap.size + 3) _)⟩
                      rw [results_cell1 rfl]
                      unfold told6V
                      go_simp
end
end

/- Layer 10: the calls whose answers the document fixes. -/
section
open Go.RowKit
set_option maxRecDepth 100000

/-- a block that a call made, none of the thing's -/
theorem Solo.beside {w0 w w' : World} {X : Thing} {N : Nat → Prop} {g : Nat} (h : Solo w0 X N w) (hb : Below w.heap.size w w') (hg : w.heap.size ≤ g) (hg' : g < w'.heap.size) : Solo w0 X (fun k => k = g ∨ N k) w' := by
  obtain ⟨⟨S, h1, h2⟩, h3, h4⟩ := h
  refine ⟨⟨S, Thing.next h1 hb, fun k hk => ⟨(h2 k hk).1, fun e => e.elim (fun e => by have := X.lt h1 k hk; omega) (h2 k hk).2⟩⟩, h3.trans (hb.mono h3.size), fun k hk => ?_⟩
  rcases hk with rfl | hk
  · exact hg'
  · have := h4 k hk
    have := hb.size
    omega
def aw1 : Pl := ⟨[⟨1, 1, .lent 5 0 false 0, 0⟩], [], 1⟩
def aw2 : Pl := ⟨[⟨1, 1, .lent 5 0 false 0, 0⟩], [6], 1⟩
def aw4 : Pl := ⟨[⟨1, 1, .lent 5 9 false 1, 0⟩], [6], 1⟩
def aw5 : Pl := ⟨[⟨1, 1, .lent 5 0 false 1, 0⟩], [6], 1⟩
def aw6 : Pl := ⟨[⟨1, 1, .idle false 1, 2⟩], [6], 1⟩
def aw7 : Pl := ⟨[⟨1, 1, .lent 6 0 false 1, 2⟩], [], 1⟩
theorem aw_inv : KInv 1 1 0 ⟨[], [], 0⟩ ∧ KInv 1 1 1 aw1 ∧ KInv 1 1 2 aw2 ∧ KInv 1 1 3 aw2 ∧ KInv 1 1 4 aw4 ∧ KInv 1 1 5 aw5 ∧ KInv 1 1 6 aw6 := by
  have k0 := KInv.new (mo := 1) (m := 1) (by omega) (by omega)
  have k1 : KInv 1 1 1 aw1 := k0.do (by omega) 5 ⟨0, 5, 0, 1, 0, 0⟩
  have k2 : KInv 1 1 2 aw2 := k1.do (by omega) 5 ⟨0, 6, 0, 1, 0, 0⟩
  have k3 : KInv 1 1 3 aw2 := k2.do (by omega) 5 ⟨0, 7, 0, 1, 0, 0⟩
  have k4 : KInv 1 1 4 aw4 := k3.do (by omega) 5 ⟨3, 0, 1, 0, 0, 9⟩
  have k5 : KInv 1 1 5 aw5 := k4.do (by omega) 5 ⟨4, 0, 1, 0, 0, 9⟩
  have k6 : KInv 1 1 6 aw6 := k5.do (by omega) 5 ⟨6, 0, 1, 0, 2, 0⟩
  exact ⟨k0, k1, k2, k3, k4, k5, k6⟩
theorem eql_info_same (w : World) : (binOp .eql 39 (.agg #[.int .i64 1, .int .i64 2, .int .i64 5, .int .u64 1, .int .u64 9, .int .u64 0]) (.agg #[.int .i64 1, .int .i64 2, .int .i64 5, .int .u64 1, .int .u64 9, .int .u64 0])).run Try.prog w = .ok (.bool true) w := by kernel_rfl

set_option maxHeartbeats 8000000 in
theorem awake10_ok (w : World) :
    Calls Try.prog 8 #[] w fun e w' => e = .returned (.bool true) ∧ Below w.heap.size w w' := by
  obtain ⟨k0, k1, k2, k3, k4, k5, k6⟩ := aw_inv
  have K0 := Lib.hid k0
  have K1 := Lib.hid k1
  have K2 := Lib.hid k2
  have K3 := Lib.hid k3
  have K4 := Lib.hid k4
  have K5 := Lib.hid k5
  have K6 := Lib.hid k6
  clear k0 k1 k2 k3 k4 k5 k6
  have HN := Lib.hid (ppnew_good 1 1 5 w (by omega) (by omega) (by omega) (by omega) (by omega))
  have HEQ := eql_info_same
  go_enter Try.func8, Try.ntmps8
  go_wp2_with fail
  refine HN.out.mono ?_
  rintro e w1 ⟨b, S1, rfl, p1, q1, l1⟩
  have S1 : Hid (Solo w (PP b 1 5 1 ⟨[], [], 0⟩) noneB w1) := Lib.hid (Solo.make (Below.refl _ _) p1 q1 l1)
  clear p1 q1 l1 HN
  have P1 : Hid (Calls Try.prog 19 #[.pointer (some ⟨b, 0, none⟩), .int .i64 5, .int .u64 1, .int .u64 0] w1 fun e w' => e = .returned (.tuple #[.int .i64 1, .int .i64 0]) ∧ Solo w (PP b 1 5 1 aw1) noneB w') := Lib.hid ((S1.out.op (Y := PP b 1 5 1 aw1) (Q := fun e _ => e = .returned (.tuple #[.int .i64 1, .int .i64 0])) fun S hp => pacq_ok 5 1 0 K0.out (by omega) hp).mono fun _ _ ⟨h1, h2, _⟩ => ⟨h1, h2⟩)
  clear S1
  go_wp2_with fail
  refine P1.out.mono ?_
  rintro e w2 ⟨rfl, s2⟩
  have P2 : Hid (Calls Try.prog 19 #[.pointer (some ⟨b, 0, none⟩), .int .i64 6, .int .u64 1, .int .u64 0] w2 fun e w' => e = .returned (.tuple #[.int .i64 0, .int .i64 13]) ∧ Solo w (PP b 1 5 1 aw2) noneB w') := Lib.hid ((s2.op (Y := PP b 1 5 1 aw2) (Q := fun e _ => e = .returned (.tuple #[.int .i64 0, .int .i64 13])) fun S hp => pacq_ok 6 1 0 K1.out (by omega) hp).mono fun _ _ ⟨h1, h2, _⟩ => ⟨h1, h2⟩)
  clear s2 P1
  go_wp2_with fail
  refine P2.out.mono ?_
  rintro e w3 ⟨rfl, s3⟩
  have P3 : Hid (Calls Try.prog 19 #[.pointer (some ⟨b, 0, none⟩), .int .i64 7, .int .u64 1, .int .u64 0] w3 fun e w' => e = .returned (.tuple #[.int .i64 0, .int .i64 5]) ∧ Solo w (PP b 1 5 1 aw2) noneB w') := Lib.hid ((s3.op (Y := PP b 1 5 1 aw2) (Q := fun e _ => e = .returned (.tuple #[.int .i64 0, .int .i64 5])) fun S hp => pacq_ok 7 1 0 K2.out (by omega) hp).mono fun _ _ ⟨h1, h2, _⟩ => ⟨h1, h2⟩)
  clear s3 P2
  go_wp2_with fail
  refine P3.out.mono ?_
  rintro e w4 ⟨rfl, s4⟩
  have P4 : Hid (Calls Try.prog 20 #[.pointer (some ⟨b, 0, none⟩), .int .i64 1, .int .u64 9] w4 fun e w' => e = .returned (.int .i64 0) ∧ Solo w (PP b 1 5 1 aw4) noneB w') := Lib.hid ((s4.op (Y := PP b 1 5 1 aw4) (Q := fun e _ => e = .returned (.int .i64 0)) fun S hp => ppsend_ok 1 9 K3.out hp).mono fun _ _ ⟨h1, h2, _⟩ => ⟨h1, h2⟩)
  clear s4 P3
  go_wp2_with fail
  refine P4.out.mono ?_
  rintro e w5 ⟨rfl, s5⟩
  have P5 : Hid (Calls Try.prog 11 #[.pointer (some ⟨b, 0, none⟩)] w5 fun e w' => ∃ g c : Nat, e = .returned (.slice (some ⟨g, 0, none⟩) 1 c) ∧ Solo w (PP b 1 5 1 aw4) (fun k => k = g ∨ noneB k) w' ∧ w'.cell? ⟨g, 0, none⟩ = some (.int .i64 1) ∧ w'.cell? ⟨g, 1, none⟩ = some (.int .i64 2) ∧ w'.cell? ⟨g, 2, none⟩ = some (.int .i64 5) ∧ w'.cell? ⟨g, 3, none⟩ = some (.int .u64 1) ∧ w'.cell? ⟨g, 4, none⟩ = some (.int .u64 9) ∧ w'.cell? ⟨g, 5, none⟩ = some (.int .u64 0)) := Lib.hid (by
    obtain ⟨S5, hp5, _⟩ := s5.at_
    refine (pconns_ok hp5).mono ?_
    rintro e w' ⟨A, n, c, rfl, ho, _, hb⟩
    have hn : n = 1 := by have := ho.1; rw [inC_length] at this; simp only [aw4, List.map_cons, List.map_nil, List.length_singleton] at this; omega
    subst hn
    rcases ho.2 with ⟨_, h0⟩ | ⟨g, cap, cur, hv, hg, hh, _⟩
    · omega
    · injection hv with hA _ _
      subst hA
      have hcell := fun j u hu => ho.cells (g := g) rfl j u hu
      have hadd : ∀ j : Nat, (⟨g, 0, none⟩ : Addr).add j = ⟨g, j, none⟩ := fun j => by unfold Addr.add; split <;> simp_all
      refine ⟨g, c, rfl, s5.beside hb hg (Array.getElem?_eq_some_iff.1 hh).1, ?_, ?_, ?_, ?_, ?_, ?_⟩
      · rw [← hadd 0]; exact hcell 0 _ rfl
      · rw [← hadd 1]; exact hcell 1 _ rfl
      · rw [← hadd 2]; exact hcell 2 _ rfl
      · rw [← hadd 3]; exact hcell 3 _ rfl
      · rw [← hadd 4]; exact hcell 4 _ rfl
      · rw [← hadd 5]; exact hcell 5 _ rfl)
  clear s5 P4
  go_wp2_with fail
  refine P5.out.mono ?_
  rintro e w6 ⟨g, c, rfl, s6, c0, c1, c2, c3, c4, c5⟩
  have kc : ∀ u u' : World, (∀ k, (k = g ∨ noneB k) → u'.heap[k]? = u.heap[k]?) → ∀ j, u'.cell? ⟨g, j, none⟩ = u.cell? ⟨g, j, none⟩ := fun _ _ h j => World.cell?_of_block (a := ⟨g, j, none⟩) (h g (.inl rfl))
  have KC := Lib.hid kc
  clear kc
  have P6 : Hid (Calls Try.prog 15 #[.pointer (some ⟨b, 0, none⟩), .int .i64 1, .int .u64 9] w6 fun e w' => e = .returned (.bool true) ∧ Solo w (PP b 1 5 1 aw5) (fun k => k = g ∨ noneB k) w' ∧ ∀ k, (k = g ∨ noneB k) → w'.heap[k]? = w6.heap[k]?) := Lib.hid (s6.op (Y := PP b 1 5 1 aw5) (Q := fun e _ => e = .returned (.bool true)) fun S hp => ppreply_ok 1 9 K4.out hp)
  clear s6 P5
  go_wp2_with fail
  refine P6.out.mono ?_
  rintro e w7 ⟨rfl, s7, h7⟩
  have x7 := KC.out w6 w7 h7
  rw [← x7] at c0 c1 c2 c3 c4 c5
  clear x7 h7
  have P7 : Hid (Calls Try.prog 21 #[.pointer (some ⟨b, 0, none⟩), .int .i64 1, .int .u64 2] w7 fun e w' => e = .returned (.bool true) ∧ Solo w (PP b 1 5 1 aw6) (fun k => k = g ∨ noneB k) w' ∧ ∀ k, (k = g ∨ noneB k) → w'.heap[k]? = w7.heap[k]?) := Lib.hid (s7.op (Y := PP b 1 5 1 aw6) (Q := fun e _ => e = .returned (.bool true)) fun S hp => pprelease_ok 1 2 K5.out hp)
  clear s7 P6
  go_wp2_with fail
  refine P7.out.mono ?_
  rintro e w8 ⟨rfl, s8, h8⟩
  have x8 := KC.out w7 w8 h8
  rw [← x8] at c0 c1 c2 c3 c4 c5
  clear x8 h8
  have P8 : Hid (Calls Try.prog 22 #[.pointer (some ⟨b, 0, none⟩), .int .u64 1, .int .u64 3] w8 fun e w' => e = .returned (.tuple #[.int .i64 6, .int .i64 1, .bool true]) ∧ Solo w (PP b 1 5 1 aw7) (fun k => k = g ∨ noneB k) w' ∧ ∀ k, (k = g ∨ noneB k) → w'.heap[k]? = w8.heap[k]?) := Lib.hid (s8.op (Y := PP b 1 5 1 aw7) (Q := fun e _ => e = .returned (.tuple #[.int .i64 6, .int .i64 1, .bool true])) fun S hp => pserve_ok 1 3 K6.out (by omega) hp)
  clear s8 P7
  go_wp2_with fail
  refine P8.out.mono ?_
  rintro e w9 ⟨rfl, s9, h9⟩
  have x9 := KC.out w8 w9 h9
  rw [← x9] at c0 c1 c2 c3 c4 c5
  clear x9 h9
  have P9 : Hid (Calls Try.prog 12 #[.pointer (some ⟨b, 0, none⟩)] w9 fun e w' => ∃ A c, e = .returned (.slice A 0 c) ∧ Below w.heap.size w w') := Lib.hid (by
    obtain ⟨S9, hp9, _⟩ := s9.at_
    refine (pwaiting_ok hp9).mono ?_
    rintro e w' ⟨A, n, c, rfl, hr, _, hb⟩
    have hn : n = 0 := by have := hr.len; simpa [aw7] using this.symm
    subst hn
    exact ⟨A, c, rfl, s9.low.trans (hb.mono s9.low.size)⟩)
  clear s9 P8
  go_wp2_with fail
  refine P9.out.mono ?_
  rintro e w10 ⟨A, c', rfl, hb⟩
  have HB := Lib.hid hb
  clear hb P9
  go_wp2_with fail
  go_ret
  exact ⟨rfl, HB.out⟩
end

/- From a walk to a law's row: arguments opened, and shut behind a call that left alone what was there before it. -/
section
open Go.RowKit Go.ChangeShapes Go.WideShapes Go.ChangeAt

theorem own0 : ownKnob Try.prog.godebug = none := by kernel_rfl
theorem laid0 : laidOutB Try.prog = true := by kernel_rfl

section
variable {H : Type} {enc : TypeId × Value → H} {P : Program}
theorem trodAll_later {W W' : World} (hl : laidOutB P = true) (hb : Below W.heap.size W W') : ∀ (ts : List TypeId) (vs : List Value) (ds : List (DataW H)) (ps : List MemPlace),
    (∀ t ∈ ts, P.readableRec t = true ∧ t < P.types.size) → DataW.TrodAll enc P W 0 (fun _ => true) true ts vs ds ps → (∀ x ∈ ps, x.block < W.heap.size) →
    DataW.TrodAll enc P W' 0 (fun b => decide (b < W.heap.size)) true ts vs ds ps
  | [], vs, ds, ps, _, h, _ => by
    cases vs <;> cases ds <;> simp [DataW.TrodAll] at h ⊢
    exact h
  | t :: ts, vs, ds, ps, ht, h, hlt => by
    obtain ⟨v, vs', d, ds', p, q, rfl, rfl, rfl, h1, h2⟩ := trodAll_cons h
    have h3 := Below.trod hl (ht t (by simp)).1 (ht t (by simp)).2 h1 hb (fun x hx => hlt x (by simp [hx]))
    have h4 := trodAll_later hl hb ts vs' ds' q (fun u hu => ht u (by simp [hu])) h2 (fun x hx => hlt x (by simp [hx]))
    exact trodAll_cons_mk h3 h4

/-- a law that answers true, and leaves alone what was there -/
theorem law_post {f : Func} {s : ChangeSpec} {tb : TypeId} {W W' : World} {args : Array Value} {ds gs : List (DataW H)} {before : List MemPlace}
    (hl : laidOutB P = true) (hts : ∀ t ∈ f.params.toList, P.readableRec t = true ∧ t < P.types.size) (hv : s.vars = []) (hrt : f.resultTypes = #[tb]) (htb : P.underlying tb = some .bool)
    (hW : DataW.Whole enc P f.params.toList s.vars false W args.toList ds gs before) (hfn : s.fn H (ds ++ gs) = { results := [.lit (.bool true)], args := ds })
    (hb : Below W.heap.size W W') : s.post enc P f false true false false W args (.bool true) W' := by
  have hlt : ∀ p ∈ before, p.block < W.heap.size := fun p hp => hW.lt p hp
  have hW' := hW
  obtain ⟨p, q, hA, hV, rfl, _, _⟩ := hW
  rw [hv] at hV
  obtain ⟨rfl, rfl⟩ := trodVars_none hV
  refine ⟨ds, [], p ++ [], [], p, [], hW', ?_, ?_, ?_, World.keptBut_mono (fun x hx => ⟨hx, .inr (.inl (by simpa using hx))⟩) (hb.frame (· ∈ p ++ [])), fun h => by cases h⟩
  · rw [hfn, hrt]
    exact trodAll_mk1 (shut_bool htb true)
  · rw [hfn]
    exact trodAll_later hl hb _ _ _ _ hts hA (fun x hx => hlt x (by simp [hx]))
  · rw [hfn, hv]
    simp [DataW.TrodVars]

theorem mapM_getD (zs : List Int) (h : ∀ n ∈ zs, (Lit.int .u8 n).wf = true) : (zs.map fun n => bv (UInt8.ofNat n.toNat)) = zs.map (Value.int .u8) := by
  apply List.map_congr_left
  intro n hn
  have hw := h n hn
  simp [Lit.wf, IntKind.min, IntKind.max, IntKind.signed, IntKind.bits] at hw
  simp only [bv, UInt8.toNat_ofNat']
  congr 1
  omega

/-- an argument that is a slice of bytes -/
theorem open_bytes {r : Reach} {b0 : Nat} {W : World} {t e : TypeId} {v : Value} {d : DataW H} {ps : List MemPlace} (ht : P.underlying t = some (.slice e)) (he : P.underlying e = some (.int .u8)) (hc : P.cellsOf e = 1)
    (hval : Value.okWide P W r b0 t v) (h : DataW.Trod enc P W 0 (fun _ => true) true t v d ps) :
    ∃ A l c bs, v = .slice A l c ∧ Sl W W.heap.size A l c bs ∧ c ≤ 9223372036854775807 := by
  obtain ⟨a, l, c, rfl⟩ := okWide_slice ht hval
  obtain ⟨fuel, hf⟩ := h
  rcases open_ints ht he hc hf with ⟨hcs, _⟩ | ⟨ad, len, cap, zs, hcs, _, hle, hmax, hzl, _, hcell, hwf⟩
  · simp [Value.cells] at hcs
    obtain ⟨rfl, rfl, rfl⟩ := hcs
    exact ⟨none, 0, 0, [], rfl, Sl.nil _ _, by omega⟩
  · simp [Value.cells] at hcs
    obtain ⟨rfl, rfl, rfl⟩ := hcs
    simp only [if_true] at hzl
    refine ⟨some ad, l, c, (zs.take l).map fun n => UInt8.ofNat n.toNat, rfl, ⟨?_, by simp; omega, hle⟩, by unfold maxLen at hmax; omega⟩
    have e1 : bvs ((zs.take l).map fun n => UInt8.ofNat n.toNat) = (zs.take l).map (Value.int .u8) := by
      rw [bvs, List.map_map]
      exact mapM_getD (zs.take l) (fun n hn => hwf n (List.mem_of_mem_take hn))
    rw [e1]
    rcases Nat.eq_zero_or_pos l with rfl | hpos
    · exact .inl (by simp)
    · have hc0 : ∀ i, i < zs.length → W.cell? (ad.add i) = some (.int .u8 (zs.getD i 0)) := hcell
      refine .inr ⟨ad, rfl, ?_, fun j u hu => ?_⟩
      · have := World.block_lt_of_cell? W _ (hc0 0 (by omega))
        rwa [add_block] at this
      · have hj : j < l := by
          have := (List.getElem?_eq_some_iff.1 hu).1
          simp at this
          omega
        rw [hc0 j (by omega)]
        rw [List.getElem?_map, List.getElem?_take_of_lt hj, List.getElem?_eq_getElem (by omega)] at hu
        simp at hu
        rw [← hu]
        simp [List.getD, List.getElem?_eq_getElem (show j < zs.length by omega)]
end
theorem wf64 {a : Int} (h : (Lit.int .i64 a).wf = true) : -9223372036854775808 ≤ a ∧ a ≤ 9223372036854775807 := by
  simpa [Lit.wf, IntKind.min, IntKind.max, IntKind.signed, IntKind.bits] using h
theorem wfu64 {a : Int} (h : (Lit.int .u64 a).wf = true) : ∃ n : Nat, a = n ∧ n < 18446744073709551616 := by
  have h2 : 0 ≤ a ∧ a ≤ 18446744073709551615 := by simpa [Lit.wf, IntKind.min, IntKind.max, IntKind.signed, IntKind.bits] using h
  exact ⟨a.toNat, by omega, by omega⟩
end

/- Arguments that are slices of plain data, or structs of them, opened: rows of any elements, and how much they weigh. -/
section
open Go.RowKit Go.ChangeShapes Go.WideShapes Go.ChangeAt
set_option maxRecDepth 100000

section
variable {H : Type} {enc : TypeId × Value → H} {P : Program} {W : World}

/-- what a datum weighs is within reach -/
def Light (P : Program) (t : TypeId) (d : DataW H) : Prop := ∀ n ∈ d.weights P t, n ≤ 140737488351232
theorem light_of {ts : List TypeId} {ds : List (DataW H)} (h : (DataW.weightsEach P ts ds).all (· ≤ reachBytes) = true) {j : Nat} {t : TypeId} {d : DataW H} (ht : ts[j]? = some t) (hd : ds[j]? = some d) : Light P t d := fun n hn => by
  have := List.all_eq_true.1 h _ (DataW.weights_mem_each ht hd n hn)
  have h2 : n ≤ reachBytes := by simpa using this
  exact h2
theorem weightsAll_mem {e : TypeId} {ds : List (DataW H)} {d : DataW H} (h : d ∈ ds) {n : Nat} (hn : n ∈ d.weights P e) : n ∈ DataW.weightsAll P e ds := by
  induction ds with
  | nil => simp at h
  | cons x r ih =>
    simp only [DataW.weightsAll, List.mem_append]
    rcases List.mem_cons.1 h with rfl | h
    · exact .inl hn
    · exact .inr (ih h)
theorem Light.slice {t e : TypeId} {elems spare : List (DataW H)} (ht : P.underlying t = some (.slice e)) (h : Light P t (.slice elems spare)) : (elems.length + spare.length) * P.bytesOf e ≤ 140737488351232 ∧ (∀ d ∈ elems, Light P e d) ∧ ∀ d ∈ spare, Light P e d := by
  unfold Light at *
  simp only [DataW.weights, ht] at h
  refine ⟨h _ (by simp), fun d hd n hn => h n ?_, fun d hd n hn => h n ?_⟩
  · exact List.mem_cons_of_mem _ (List.mem_append_left _ (weightsAll_mem hd hn))
  · exact List.mem_cons_of_mem _ (List.mem_append_right _ (weightsAll_mem hd hn))
theorem Light.field {t : TypeId} {fs : Array Field} {parts : List (DataW H)} (ht : P.underlying t = some (.struct fs)) (h : Light P t (.agg parts)) {j : Nat} {f : Field} {d : DataW H} (hf : fs[j]? = some f) (hd : parts[j]? = some d) : Light P f.type d := by
  unfold Light at *
  simp only [DataW.weights, ht] at h
  exact fun n hn => h n (DataW.weights_mem_each (t := f.type) (by simp [hf]) hd n hn)
theorem Light.string {t : TypeId} {s : List UInt8} (h : Light P t (.lit (.string s) : DataW H)) : s.length ≤ 140737488351232 := h _ (by simp [DataW.weights])

/-- cells behind cells are read -/
theorem reads_append {ad : Addr} {xs ys : List Value} (h1 : ∀ j u, xs[j]? = some u → W.cell? (ad.add j) = some u) (h2 : ∀ j u, ys[j]? = some u → W.cell? ((ad.add xs.length).add j) = some u) :
    ∀ j u, (xs ++ ys)[j]? = some u → W.cell? (ad.add j) = some u := by
  intro j u hu
  rcases Nat.lt_or_ge j xs.length with h | h
  · rw [List.getElem?_append_left h] at hu
    exact h1 j u hu
  · rw [List.getElem?_append_right h] at hu
    have := h2 _ u hu
    rwa [add_add, show xs.length + (j - xs.length) = j by omega] at this

/-- a row of elements of any kind, of 'size' cells each -/
theorem open_rows {R : Type} [Inhabited R] {t e : TypeId} {size bytes fuel : Nat} {cs : List Value} {x : DataW H × List MemPlace} {cells : R → List Value} {OK : R → Prop}
    (ht : P.underlying t = some (.slice e)) (hsz : P.cellsOf e = size) (hby : P.bytesOf e = bytes) (hpos : 0 < size)
    (he : ∀ n cs' x', DataW.trod enc P W 0 (fun _ => true) true n e cs' = some x' → Light P e x'.1 → ∃ r, cs' = cells r ∧ OK r)
    (h : DataW.trod enc P W 0 (fun _ => true) true fuel t cs = some x) (hw : Light P t x.1) :
    ∃ A l c, ∃ rs : List R, cs = [.slice A l c] ∧ rs.length = l ∧ Rd W W.heap.size A (rs.flatMap cells) ∧ (∀ r ∈ rs, OK r) ∧ l ≤ c ∧ c * bytes ≤ 140737488351232 := by
  rcases Go.Deep.open_slice ht h with ⟨rfl, _⟩ | ⟨a, len, cap, m, n, D, Pl, rfl, hb, hl, hm, hmm, rfl, hx⟩
  · exact ⟨none, 0, 0, [], rfl, rfl, .inl rfl, fun r hr => by simp at hr, Nat.le_refl _, by omega⟩
  simp only [if_true] at hmm
  subst hmm
  rw [hsz] at hx
  obtain ⟨w1, w2, w3⟩ := Light.slice ht hw
  simp only [List.length_map, List.length_range] at w1
  rw [show len + (m - len) = m by omega, hby] at w1
  have hlight : ∀ i, i < m → Light P e (D i) := fun i hi => by
    rcases Nat.lt_or_ge i len with h | h
    · exact w2 _ (List.mem_map.2 ⟨i, List.mem_range.2 h, rfl⟩)
    · refine w3 _ (List.mem_map.2 ⟨i - len, List.mem_range.2 (by omega), ?_⟩)
      show D (len + (i - len)) = D i
      rw [show len + (i - len) = i by omega]
  obtain ⟨r, hr⟩ := Go.Deep.choose_lt (α := R) (p := fun i r => W.cells? 0 (a.add (i * size)) size = some (cells r) ∧ OK r) (fun i hi => by
    obtain ⟨cs', h1, h2⟩ := hx i hi
    obtain ⟨r, rfl, hok⟩ := he _ _ _ h2 (hlight i hi)
    exact ⟨r, h1, hok⟩)
  have key : ∀ k, k ≤ m → (((List.range k).map r).flatMap cells).length = k * size ∧ ∀ j u, (((List.range k).map r).flatMap cells)[j]? = some u → W.cell? (a.add j) = some u := by
    intro k
    induction k with
    | zero => intro _; exact ⟨by simp, fun j u hu => by simp at hu⟩
    | succ k ih =>
      intro hk
      obtain ⟨i1, i2⟩ := ih (by omega)
      obtain ⟨h1, _⟩ := hr k (by omega)
      obtain ⟨_, hlen, hcell⟩ := World.cells?_some h1
      rw [List.range_succ, List.map_append, List.flatMap_append]
      simp only [List.map_cons, List.map_nil, List.flatMap_cons, List.flatMap_nil, List.append_nil]
      refine ⟨by rw [List.length_append, i1, hlen]; rw [Nat.succ_mul], reads_append i2 fun j u hu => ?_⟩
      rw [i1]
      have hj : j < size := by rw [← hlen]; exact (List.getElem?_eq_some_iff.1 hu).1
      rw [hcell j hj]
      exact hu
  refine ⟨some a, len, m, (List.range len).map r, rfl, by simp, ?_, ?_, hl, w1⟩
  · rcases Nat.eq_zero_or_pos len with rfl | h0
    · exact .inl (by simp)
    · refine .inr ⟨a, rfl, ?_, (key len hl).2⟩
      have hne : 0 < (((List.range len).map r).flatMap cells).length := by rw [(key len hl).1]; exact Nat.mul_pos h0 hpos
      have := World.block_lt_of_cell? W _ ((key len hl).2 0 _ (List.getElem?_eq_getElem hne))
      rwa [add_block] at this
  · intro q hq
    obtain ⟨i, hi, rfl⟩ := List.mem_map.1 hq
    exact (hr i (by have := List.mem_range.1 hi; omega)).2

theorem flat_bytes : ∀ bs : List UInt8, bs.flatMap (fun b => [bv b]) = bvs bs
  | [] => rfl
  | b :: r => congrArg (bv b :: ·) (flat_bytes r)

/-- bytes, by their cells -/
theorem open_bytes_cells {fuel : Nat} {cs : List Value} {t e : TypeId} {x : DataW H × List MemPlace} (ht : P.underlying t = some (.slice e)) (he : P.underlying e = some (.int .u8)) (hc : P.cellsOf e = 1) (hby : P.bytesOf e = 1)
    (h : DataW.trod enc P W 0 (fun _ => true) true fuel t cs = some x) (hw : Light P t x.1) :
    ∃ A l c bs, cs = [.slice A l c] ∧ Sl W W.heap.size A l c bs ∧ c ≤ 140737488351232 := by
  obtain ⟨A, l, c, bs, rfl, hl, hr, _, hlc, hm⟩ := open_rows (R := UInt8) (cells := fun b => [bv b]) (OK := fun _ => True) ht hc hby (by omega) (fun n cs' x' h' _ => by
    obtain ⟨n, rfl, _, hw⟩ := DataW.trod_int he h'
    have hw2 : 0 ≤ n ∧ n ≤ 255 := by simpa [Lit.wf, IntKind.min, IntKind.max, IntKind.signed, IntKind.bits] using hw
    refine ⟨UInt8.ofNat n.toNat, ?_, trivial⟩
    simp only [bv, UInt8.toNat_ofNat']
    congr 2
    omega) h hw
  rw [flat_bytes] at hr
  exact ⟨A, l, c, bs, rfl, ⟨hr, hl, hlc⟩, by omega⟩

/-- an argument that is a slice of bytes -/
theorem open_bytes_w {r : Reach} {b0 : Nat} {t e : TypeId} {v : Value} {d : DataW H} {ps : List MemPlace} (ht : P.underlying t = some (.slice e)) (he : P.underlying e = some (.int .u8)) (hc : P.cellsOf e = 1) (hby : P.bytesOf e = 1)
    (hval : Value.okWide P W r b0 t v) (h : DataW.Trod enc P W 0 (fun _ => true) true t v d ps) (hw : Light P t d) :
    ∃ A l c bs, v = .slice A l c ∧ Sl W W.heap.size A l c bs ∧ c ≤ 140737488351232 := by
  obtain ⟨a, l, c, rfl⟩ := okWide_slice ht hval
  obtain ⟨fuel, hf⟩ := h
  obtain ⟨A, l', c', bs, hcs, hs, hm⟩ := open_bytes_cells ht he hc hby hf hw
  have hcs' : [Value.slice a l c] = [Value.slice A l' c'] := hcs
  simp only [List.cons.injEq, and_true] at hcs'
  exact ⟨A, l', c', bs, hcs', hs, hm⟩

/-- an argument that is a slice of whole numbers -/
theorem flat_ints : ∀ zs : List Int, zs.flatMap (fun z => [Value.int .i64 z]) = zs.map (Value.int .i64)
  | [] => rfl
  | z :: r => congrArg (Value.int .i64 z :: ·) (flat_ints r)
theorem open_ints_w {r : Reach} {b0 : Nat} {t e : TypeId} {v : Value} {d : DataW H} {ps : List MemPlace} (ht : P.underlying t = some (.slice e)) (he : P.underlying e = some (.int .i64)) (hc : P.cellsOf e = 1) (hby : P.bytesOf e = 8)
    (hval : Value.okWide P W r b0 t v) (h : DataW.Trod enc P W 0 (fun _ => true) true t v d ps) (hw : Light P t d) :
    ∃ A l c, ∃ zs : List Int, v = .slice A l c ∧ zs.length = l ∧ Rd W W.heap.size A (zs.map (Value.int .i64)) ∧ (∀ z ∈ zs, -9223372036854775808 ≤ z ∧ z ≤ 9223372036854775807) ∧ l ≤ c ∧ c * 8 ≤ 140737488351232 := by
  obtain ⟨a, l, c, rfl⟩ := okWide_slice ht hval
  obtain ⟨fuel, hf⟩ := h
  obtain ⟨A, l', c', zs, hcs, hl, hr, hok, hlc, hm⟩ := open_rows (R := Int) (cells := fun z => [Value.int .i64 z]) (OK := fun z => -9223372036854775808 ≤ z ∧ z ≤ 9223372036854775807) ht hc hby (by omega) (fun n cs' x' h' _ => by
    obtain ⟨n, rfl, _, hw⟩ := DataW.trod_int he h'
    exact ⟨n, rfl, wf64 hw⟩) hf hw
  have hcs' : [Value.slice a l c] = [Value.slice A l' c'] := hcs
  simp only [List.cons.injEq, and_true] at hcs'
  rw [flat_ints] at hr
  exact ⟨A, l', c', zs, hcs', hl, hr, hok, hlc, hm⟩
end
end

/- Arguments that are rows of acts of three numbers and three natural numbers, opened. -/
section
open Go.RowKit Go.ChangeShapes Go.WideShapes Go.ChangeAt
set_option maxRecDepth 100000

def Act6.cells (t : Act6) : List Value := [.int .i64 t.d, .int .i64 t.ss, .int .i64 t.id, .int .u64 t.ep, .int .u64 t.now, .int .u64 t.n]
def azC (ts : List Act6) : List Value := ts.flatMap Act6.cells
theorem azC_length : ∀ ts : List Act6, (azC ts).length = ts.length * 6
  | [] => rfl
  | r :: rs => by
    have := azC_length rs
    simp only [azC, List.flatMap_cons, List.length_append, List.length_cons, Act6.cells, List.length_nil] at this ⊢
    omega
theorem azC_at : ∀ (rs : List Act6) (j : Nat) (h : j < rs.length), (azC rs)[j * 6]? = some (.int .i64 rs[j].d) ∧ (azC rs)[j * 6 + 1]? = some (.int .i64 rs[j].ss) ∧ (azC rs)[j * 6 + 2]? = some (.int .i64 rs[j].id) ∧ (azC rs)[j * 6 + 3]? = some (.int .u64 rs[j].ep) ∧ (azC rs)[j * 6 + 4]? = some (.int .u64 rs[j].now) ∧ (azC rs)[j * 6 + 5]? = some (.int .u64 rs[j].n)
  | [], _, h => by simp at h
  | r :: rs, 0, _ => by simp [azC, Act6.cells]
  | r :: rs, j + 1, h => by
    have := azC_at rs j (by simpa using h)
    have e1 : (j + 1) * 6 = j * 6 + 6 := by omega
    simp only [azC, List.flatMap_cons] at this ⊢
    rw [e1]
    simpa [Act6.cells] using this
/-- a row of acts that is read -/
structure AZ (w : World) (A : Option Addr) (n : Nat) (ts : List Act6) : Prop where
  len : ts.length = n
  rd : Rd w w.heap.size A (azC ts)
theorem AZ.next {w w' : World} {A : Option Addr} {n : Nat} {ts : List Act6} (h : AZ w A n ts) (hb : Below w.heap.size w w') : AZ w' A n ts := ⟨h.len, (h.rd.below hb (Nat.le_refl _)).more hb.size⟩
theorem AZ.at_ {w : World} {A : Option Addr} {n : Nat} {ts : List Act6} (h : AZ w A n ts) {j : Nat} (hj : j < ts.length) : ∃ ad, A = some ad ∧ ad.block < w.heap.size ∧ ∀ w', Below w.heap.size w w' → w'.cell? (ad.add (j * 6)) = some (.int .i64 ts[j].d) ∧ w'.cell? ⟨(ad.add (j * 6)).block, (ad.add (j * 6)).off + 1, none⟩ = some (.int .i64 ts[j].ss) ∧ w'.cell? ⟨(ad.add (j * 6)).block, (ad.add (j * 6)).off + 2, none⟩ = some (.int .i64 ts[j].id) ∧ w'.cell? ⟨(ad.add (j * 6)).block, (ad.add (j * 6)).off + 3, none⟩ = some (.int .u64 ts[j].ep) ∧ w'.cell? ⟨(ad.add (j * 6)).block, (ad.add (j * 6)).off + 4, none⟩ = some (.int .u64 ts[j].now) ∧ w'.cell? ⟨(ad.add (j * 6)).block, (ad.add (j * 6)).off + 5, none⟩ = some (.int .u64 ts[j].n) := by
  obtain ⟨ad, hA, hb, hc⟩ := h.rd.addr (by rw [azC_length]; omega)
  have key : ∀ (w' : World) (i : Nat) (v : Value), Below w.heap.size w w' → (azC ts)[j * 6 + i]? = some v → w'.cell? (ad.add (j * 6 + i)) = some v := fun w' i v hw hv => by
    rw [hw.cell (by rw [add_block]; exact hb)]
    exact hc _ _ hv
  obtain ⟨e0, e1, e2, e3, e4, e5⟩ := azC_at ts j hj
  have a1 : ∀ i, i ≠ 0 → (⟨(ad.add (j * 6)).block, (ad.add (j * 6)).off + i, none⟩ : Addr) = ad.add (j * 6 + i) := fun i hi => by rw [← add_add]; unfold Addr.add; simp [hi]
  refine ⟨ad, hA, hb, fun w' hw => ⟨key w' 0 _ hw e0, ?_, ?_, ?_, ?_, ?_⟩⟩
  · rw [a1 1 (by decide)]; exact key w' 1 _ hw e1
  · rw [a1 2 (by decide)]; exact key w' 2 _ hw e2
  · rw [a1 3 (by decide)]; exact key w' 3 _ hw e3
  · rw [a1 4 (by decide)]; exact key w' 4 _ hw e4
  · rw [a1 5 (by decide)]; exact key w' 5 _ hw e5

section
variable {H : Type} {enc : TypeId × Value → H} {W : World}
theorem open_act6_cells {fuel : Nat} {cs : List Value} {x : DataW H × List MemPlace} (h : DataW.trod enc Try.prog W 0 (fun _ => true) true fuel 30 cs = some x) :
    ∃ t : Act6, cs = t.cells := by
  obtain ⟨xs, n, _, rfl, hl, hlen, hf⟩ := DataW.trod_struct Try.underlying30 h
  have h2 : Try.prog.cellsOf 30 = 6 := by kernel_rfl
  rw [h2] at hl
  match cs, hl with
  | [v0, v1, v2, v3, v4, v5], _ =>
    simp only [Array.size] at hlen
    match xs, hlen with
    | [y0, y1, y2, y3, y4, y5], _ =>
      have c1 : Try.prog.cellsOf 3 = 1 := by kernel_rfl
      have c2 : Try.prog.cellsOf 22 = 1 := by kernel_rfl
      have e0 : DataW.trod enc Try.prog W 0 (fun _ => true) true n 3 (([v0, v1, v2, v3, v4, v5].drop 0).take (Try.prog.cellsOf 3)) = some y0 := hf 0 _ rfl
      have e1 : DataW.trod enc Try.prog W 0 (fun _ => true) true n 3 (([v0, v1, v2, v3, v4, v5].drop 1).take (Try.prog.cellsOf 3)) = some y1 := hf 1 _ rfl
      have e2 : DataW.trod enc Try.prog W 0 (fun _ => true) true n 3 (([v0, v1, v2, v3, v4, v5].drop 2).take (Try.prog.cellsOf 3)) = some y2 := hf 2 _ rfl
      have e3 : DataW.trod enc Try.prog W 0 (fun _ => true) true n 22 (([v0, v1, v2, v3, v4, v5].drop 3).take (Try.prog.cellsOf 22)) = some y3 := hf 3 _ rfl
      have e4 : DataW.trod enc Try.prog W 0 (fun _ => true) true n 22 (([v0, v1, v2, v3, v4, v5].drop 4).take (Try.prog.cellsOf 22)) = some y4 := hf 4 _ rfl
      have e5 : DataW.trod enc Try.prog W 0 (fun _ => true) true n 22 (([v0, v1, v2, v3, v4, v5].drop 5).take (Try.prog.cellsOf 22)) = some y5 := hf 5 _ rfl
      rw [c1] at e0 e1 e2
      rw [c2] at e3 e4 e5
      obtain ⟨a0, h10, _, _⟩ := DataW.trod_int (k := .i64) Try.underlying3 (show DataW.trod enc Try.prog W 0 (fun _ => true) true n 3 [v0] = some y0 from e0)
      obtain ⟨a1, h11, _, _⟩ := DataW.trod_int (k := .i64) Try.underlying3 (show DataW.trod enc Try.prog W 0 (fun _ => true) true n 3 [v1] = some y1 from e1)
      obtain ⟨a2, h12, _, _⟩ := DataW.trod_int (k := .i64) Try.underlying3 (show DataW.trod enc Try.prog W 0 (fun _ => true) true n 3 [v2] = some y2 from e2)
      obtain ⟨a3, h13, _, _⟩ := DataW.trod_int (k := .u64) Try.underlying22 (show DataW.trod enc Try.prog W 0 (fun _ => true) true n 22 [v3] = some y3 from e3)
      obtain ⟨a4, h14, _, _⟩ := DataW.trod_int (k := .u64) Try.underlying22 (show DataW.trod enc Try.prog W 0 (fun _ => true) true n 22 [v4] = some y4 from e4)
      obtain ⟨a5, h15, _, _⟩ := DataW.trod_int (k := .u64) Try.underlying22 (show DataW.trod enc Try.prog W 0 (fun _ => true) true n 22 [v5] = some y5 from e5)
      simp only [List.cons.injEq, and_true] at h10 h11 h12 h13 h14 h15
      subst h10 h11 h12 h13 h14 h15
      exact ⟨⟨a0, a1, a2, a3, a4, a5⟩, rfl⟩

theorem open_act6s {r : Reach} {b0 : Nat} {v : Value} {d : DataW H} {ps : List MemPlace} (hval : Value.okWide Try.prog W r b0 23 v) (h : DataW.Trod enc Try.prog W 0 (fun _ => true) true 23 v d ps) (hw : Light Try.prog 23 d) :
    ∃ A l c ts, v = .slice A l c ∧ AZ W A l ts := by
  obtain ⟨a, l, c, rfl⟩ := okWide_slice Try.underlying23 hval
  obtain ⟨fuel, hf⟩ := h
  obtain ⟨A, l', c', ts, hcs, hl, hr, _, _, _⟩ := open_rows (R := Act6) (cells := Act6.cells) (size := 6) (bytes := 48) (OK := fun _ => True) Try.underlying23 (by kernel_rfl) (by kernel_rfl) (by omega)
    (fun n cs' x' h' _ => by
      obtain ⟨t, ht⟩ := open_act6_cells h'
      exact ⟨t, ht, trivial⟩) hf hw
  have hcs' : [Value.slice a l c] = [Value.slice A l' c'] := hcs
  simp only [List.cons.injEq, Value.slice.injEq, and_true] at hcs'
  obtain ⟨rfl, rfl, rfl⟩ := hcs'
  exact ⟨a, l, c, ts, rfl, ⟨hl, hr⟩⟩
end
end

/- Layer 10's laws: rows that a pool told, beside the pool. -/
section
open Go.RowKit
set_option maxRecDepth 100000

theorem Solo.besides {w0 w w' : World} {X : Thing} {N N' : Nat → Prop} (h : Solo w0 X N w) (hb : Below w.heap.size w w') (hg : ∀ k, N' k → w.heap.size ≤ k ∧ k < w'.heap.size) : Solo w0 X (fun k => N' k ∨ N k) w' := by
  obtain ⟨⟨S, h1, h2⟩, h3, h4⟩ := h
  refine ⟨⟨S, Thing.next h1 hb, fun k hk => ⟨(h2 k hk).1, fun e => e.elim (fun e => by have := X.lt h1 k hk; have := (hg k e).1; omega) (h2 k hk).2⟩⟩, h3.trans (hb.mono h3.size), fun k hk => ?_⟩
  rcases hk with hk | hk
  · exact (hg k hk).2
  · have := h4 k hk
    have := hb.size
    omega
/-- a row's block -/
def rowB (A : Option Addr) (k : Nat) : Prop := ∃ ad, A = some ad ∧ ad.block = k
theorem rowB_own {A : Option Addr} {n c k : Nat} (h : rowB A k) : (Value.slice A n c).ownBlock = some k := by
  obtain ⟨ad, rfl, rfl⟩ := h
  rfl
theorem IR.kept {w w' : World} {A : Option Addr} {n : Nat} {l : List Inf} (h : IR w A n l) (hz : w.heap.size ≤ w'.heap.size) (hk : ∀ k, rowB A k → w'.heap[k]? = w.heap[k]?) : IR w' A n l := ⟨h.len, h.rd.offR hz fun ad hA => hk _ ⟨ad, hA, rfl⟩⟩
theorem NR.kept {w w' : World} {A : Option Addr} {n : Nat} {zs : List Int} (h : NR w A n zs) (hz : w.heap.size ≤ w'.heap.size) (hk : ∀ k, rowB A k → w'.heap[k]? = w.heap[k]?) : NR w' A n zs := h.off hz fun ad hA => hk _ ⟨ad, hA, rfl⟩
section
variable {b : Nat} {mo idl m : Int} {p : Pl} {S : Nat → Prop} {w w0 : World} {N : Nat → Prop}
theorem Solo.conns (h : Solo w0 (PP b mo idl m p) N w) : Calls Try.prog 11 #[.pointer (some ⟨b, 0, none⟩)] w fun e w' => ∃ A n c, e = .returned (.slice A n c) ∧ IR w' A n (p.l.map infoH) ∧ n ≤ 6 ∧ Below w.heap.size w w' ∧ Solo w0 (PP b mo idl m p) (fun k => rowB A k ∨ N k) w' := by
  obtain ⟨S, hp, _⟩ := h.at_
  refine (pconns_ok hp).mono ?_
  rintro e w' ⟨A, n, c, rfl, ho, hn, hb⟩
  exact ⟨A, n, c, rfl, IR.of_own ho, hn, hb, h.besides hb fun k hk => ho.lt k (rowB_own hk)⟩
theorem pwaiting_own (h : (PP b mo idl m p).p S w) :
    Calls Try.prog 12 #[.pointer (some ⟨b, 0, none⟩)] w fun e w' => ∃ A n c, e = .returned (.slice A n c) ∧ w'.ownsRow w.heap.size 3 1 (.slice A n c) n (ivs p.row) ∧ n ≤ 12 ∧ Below w.heap.size w w' := by
  obtain ⟨rb, hu⟩ := PP.rowc h
  obtain ⟨c4, _, hall, _, _⟩ := hu w (Below.refl _ _)
  have HC := Lib.hid hall
  clear h hu hall
  go_enter Try.func12, Try.ntmps12
  go_wp2_with fail
  refine HC.out.mono ?_
  rintro e w1 ⟨A, n, c, rfl, h1, h2, h3⟩
  have H1 := Lib.hid h1
  have H3 := Lib.hid h3
  clear h1 h3 HC
  go_wp2_with fail
  go_ret
  exact ⟨A, n, c, rfl, H1.out, h2, H3.out⟩
theorem Solo.waiting (h : Solo w0 (PP b mo idl m p) N w) : Calls Try.prog 12 #[.pointer (some ⟨b, 0, none⟩)] w fun e w' => ∃ A n c, e = .returned (.slice A n c) ∧ NS w' A n c p.row ∧ n ≤ 12 ∧ Below w.heap.size w w' ∧ Solo w0 (PP b mo idl m p) (fun k => rowB A k ∨ N k) w' := by
  obtain ⟨S, hp, _⟩ := h.at_
  refine (pwaiting_own hp).mono ?_
  rintro e w' ⟨A, n, c, rfl, ho, hn, hb⟩
  exact ⟨A, n, c, rfl, NS.of_own ho, hn, hb, h.besides hb fun k hk => ho.lt k (rowB_own hk)⟩
theorem Solo.act {k : Nat} (t : Act6) (h : Solo w0 (PP b mo idl m p) N w) (hk : KInv mo m k p) (h1000 : k ≤ 1000) :
    Calls Try.prog 10 #[.pointer (some ⟨b, 0, none⟩), .agg #[.int .i64 t.d, .int .i64 t.ss, .int .i64 t.id, .int .u64 t.ep, .int .u64 t.now, .int .u64 t.n]] w fun e w' => e = .returned (told6V (doT mo idl m t p)) ∧ Solo w0 (PP b mo idl m (doP mo idl m t p)) N w' ∧ (∀ k, N k → w'.heap[k]? = w.heap[k]?) ∧ w.heap.size ≤ w'.heap.size := by
  obtain ⟨⟨S, h1, h2⟩, h3, h4⟩ := h
  refine (dop_ok t hk h1000 h1).mono ?_
  rintro e w' ⟨he, ht⟩
  obtain ⟨s1, s2⟩ := Solo.turn h3 h4 h2 ht
  exact ⟨he, s1, s2, ht.off.size⟩
end
theorem doP_last {mo m : Int} {k : Nat} {p : Pl} (h : KInv mo m k p) (hk : k ≤ 1000) (idl : Int) (t : Act6) : p.last ≤ (doP mo idl m t p).last := by
  have hw : IntKind.i64.wrap (p.last + 1) = p.last + 1 := by
    have := h.ids.low
    have := h.ids.high
    rw [IntKind.wrap_i64]
    omega
  have hg : ∀ ss ep now, p.last ≤ (giveP mo ss ep now p).last := fun ss ep now => by
    rw [giveP_eq mo ss ep now p rfl]
    split
    · exact Int.le_refl _
    split
    · exact Int.le_refl _
    · show p.last ≤ IntKind.i64.wrap (p.last + 1)
      omega
  unfold doP
  split
  · unfold acqP
    split
    · exact Int.le_refl _
    split
    · exact Int.le_refl _
    split
    · exact Int.le_refl _
    split
    · split
      · exact hg _ _ _
      · exact hg _ _ _
    · exact Int.le_refl _
  split
  · unfold serveP
    split
    · exact Int.le_refl _
    · split
      · exact hg _ _ _
      · exact hg _ _ _
  split
  · exact Int.le_refl _
  split
  · unfold sendP
    split <;> exact Int.le_refl _
  split
  · unfold replyP
    split <;> exact Int.le_refl _
  split
  · unfold soilP
    split <;> exact Int.le_refl _
  split
  · unfold releaseP
    split
    · exact Int.le_refl _
    split <;> exact Int.le_refl _
  split
  · unfold breakP
    split <;> exact Int.le_refl _
  split
  · exact Int.le_refl _
  split
  · exact Int.le_refl _
  · exact Int.le_refl _
end

/- Layer 10's laws: plain facts of one that a pool has (by its id); what drains, and is replied to, goes out. -/
section
open Go.RowKit
set_option maxRecDepth 100000
section
variable {mo m : Int} {k : Nat} {p : Pl}
theorem KInv.one (h : KInv mo m k p) {x y : Hd} (hx : x ∈ p.l) (hy : y ∈ p.l) (e : x.id = y.id) : x = y := by
  obtain ⟨i, hi, rfl⟩ := List.getElem_of_mem hx
  obtain ⟨j, hj, rfl⟩ := List.getElem_of_mem hy
  have hp := List.pairwise_iff_getElem.1 h.ids.up
  rcases Nat.lt_trichotomy i j with hij | rfl | hij
  · have := hp i j hi hj hij; omega
  · rfl
  · have := hp j i hj hi hij; omega
theorem KInv.the (h : KInv mo m k p) {c : Hd} (hc : c ∈ p.l) : ¬ findH c.id p.l < 0 ∧ theH c.id p = c := by
  have h0 : ¬ findH c.id p.l < 0 := fun e => by
    have := firstH_all e c hc
    simp at this
  refine ⟨h0, ?_⟩
  have hid : (theH c.id p).id = c.id := by
    obtain ⟨i, hi⟩ : ∃ i : Nat, findH c.id p.l = i := ⟨(findH c.id p.l).toNat, by omega⟩
    obtain ⟨h1, h2⟩ := firstH_is hi
    unfold theH
    rw [hi]
    simpa [List.getD_eq_getElem?_getD, h1] using h2
  exact h.one (h.at_ h0) hc hid
/-- what drains is never sent anything -/
theorem KInv.sent (h : KInv mo m k p) {c : Hd} (hc : c ∈ p.l) (hs : c.c.s = 3) (n : Int) : (sendP c.id n p).2 ≠ 0 := by
  obtain ⟨h0, h1⟩ := h.the hc
  unfold sendP
  rw [if_neg h0]
  show (theH c.id p).c.sendA n ≠ 0
  rw [h1]
  obtain ⟨id, ep, c, t⟩ := c
  cases c <;> simp only [Cn.s] at hs <;> first | omega | (simp only [Cn.sendA]; split <;> omega)
/-- what drains is out once the reply comes, and the others stay -/
theorem KInv.replied (h : KInv mo m k p) {c : Hd} (hc : c ∈ p.l) (hs : c.c.s = 3) : (replyP c.id c.c.f p).2 = true ∧ (∀ x ∈ (replyP c.id c.c.f p).1.l, x ∈ p.l ∧ x ≠ c) ∧ ∀ x ∈ p.l, x ≠ c → x ∈ (replyP c.id c.c.f p).1.l := by
  obtain ⟨h0, h1⟩ := h.the hc
  have hok := h.inv.ok c hc
  have hf : c.c.f ≠ 0 := by
    obtain ⟨id, ep, c, t⟩ := c
    cases c <;> simp only [Cn.s] at hs <;> first | omega | exact hok.2
  have hcl : ((fun x : Hd => x.set (x.c.replyC c.c.f)) c).live = false := by
    obtain ⟨id, ep, c, t⟩ := c
    cases c <;> simp only [Cn.s] at hs <;> first | omega | (have := hf; simp only [Cn.f] at this; simp [Hd.live, Hd.set, Cn.replyC, Cn.f, this, Cn.s])
  obtain ⟨i, hi⟩ : ∃ i : Nat, findH c.id p.l = i := ⟨(findH c.id p.l).toNat, by omega⟩
  obtain ⟨hil, hie⟩ := firstH_is hi
  have hic : p.l[i] = c := h.one (List.getElem_mem hil) hc (by simpa using hie)
  have e2 : (replyP c.id c.c.f p).2 = true := by
    unfold replyP
    rw [if_neg h0]
    show (theH c.id p).c.replyA c.c.f = true
    rw [h1]
    simp [Cn.replyA, hf]
  have e1 : (replyP c.id c.c.f p).1.l = sweepH (p.l.modify i fun x => x.set (x.c.replyC c.c.f)) := by
    unfold replyP
    rw [if_neg h0]
    show sweepH (turnH p.l (findH c.id p.l) _) = _
    unfold turnH
    rw [hi]
    rfl
  refine ⟨e2, fun x hx => ?_, fun x hx hne => ?_⟩
  · rw [e1] at hx
    obtain ⟨hm, hl⟩ := List.mem_filter.1 hx
    obtain ⟨j, hj, rfl⟩ := List.getElem_of_mem hm
    rw [List.getElem_modify] at hl ⊢
    have hj' : j < p.l.length := by simpa using hj
    by_cases hij : i = j
    · subst hij
      rw [if_pos rfl, hic] at hl
      rw [hcl] at hl
      cases hl
    · rw [if_neg hij] at hl ⊢
      refine ⟨List.getElem_mem hj', fun e => ?_⟩
      have hp := List.pairwise_iff_getElem.1 h.ids.up
      rcases Nat.lt_or_ge i j with hlt | hge
      · have := hp i j hil hj' hlt
        rw [hic, e] at this
        omega
      · have := hp j i hj' hil (by omega)
        rw [hic, e] at this
        omega
  · rw [e1]
    obtain ⟨j, hj, rfl⟩ := List.getElem_of_mem hx
    have hij : i ≠ j := fun e => hne (by subst e; exact hic)
    refine List.mem_filter.2 ⟨?_, h.inv.live _ hx⟩
    have e3 : (p.l.modify i fun x => x.set (x.c.replyC c.c.f))[j]'(by simpa using hj) = p.l[j] := by rw [List.getElem_modify, if_neg hij]
    rw [← e3]
    exact List.getElem_mem _
/-- midway through the replies to those of another epoch -/
structure RInv (ep : Int) (l : List Hd) (r : Nat) (p : Pl) : Prop where
  ahead : ∀ x ∈ p.l, x.ep ≠ ep → ∃ j, r ≤ j ∧ ∃ hj : j < l.length, l[j] = x
  there : ∀ j (hj : j < l.length), r ≤ j → l[j] ∈ p.l
theorem RInv.start (ep : Int) (p : Pl) : RInv ep p.l 0 p := ⟨fun x hx _ => by obtain ⟨j, hj, e⟩ := List.getElem_of_mem hx; exact ⟨j, Nat.zero_le _, hj, e⟩, fun j hj _ => List.getElem_mem hj⟩
variable {ep : Int} {l : List Hd} {r : Nat}
theorem RInv.same (h : RInv ep l r p) (hr : r < l.length) (he : l[r].ep = ep) : RInv ep l (r + 1) p := ⟨fun x hx hne => by
  obtain ⟨j, h1, h2, h3⟩ := h.ahead x hx hne
  refine ⟨j, ?_, h2, h3⟩
  rcases Nat.eq_or_lt_of_le h1 with rfl | h4
  · rw [h3] at he; exact absurd he hne
  · exact h4, fun j hj hr => h.there j hj (by omega)⟩
theorem RInv.replied (h : RInv ep l r p) (hk : KInv mo m k p) (hd : DInv ep p.l) (hu : l.Pairwise fun a b => a.id < b.id) (hr : r < l.length) (he : l[r].ep ≠ ep) : (replyP l[r].id l[r].c.f p).2 = true ∧ RInv ep l (r + 1) (replyP l[r].id l[r].c.f p).1 := by
  have hm := h.there r hr (Nat.le_refl _)
  obtain ⟨h1, h2, h3⟩ := hk.replied hm (hd _ hm he)
  refine ⟨h1, fun x hx hne => ?_, fun j hj hrj => h3 _ (h.there j hj (by omega)) fun e => ?_⟩
  · obtain ⟨g1, g2⟩ := h2 x hx
    obtain ⟨j, j1, j2, j3⟩ := h.ahead x g1 hne
    refine ⟨j, ?_, j2, j3⟩
    rcases Nat.eq_or_lt_of_le j1 with rfl | h4
    · exact absurd j3.symm g2
    · exact h4
  · have := List.pairwise_iff_getElem.1 hu r j hr hj (by omega)
    rw [e] at this
    omega
theorem RInv.done (h : RInv ep l l.length p) : ∀ x ∈ p.l, x.ep = ep := fun x hx => by
  by_cases e : x.ep = ep
  · exact e
  · obtain ⟨j, h1, h2, _⟩ := h.ahead x hx e
    omega
theorem DInv.replied (hp : PInv mo m p) (h : DInv ep p.l) (id n : Int) : DInv ep (replyP id n p).1.l := h.do (mo := mo) (m := m) hp 0 ⟨4, 0, id, ep, 0, n⟩ rfl
theorem KInv.reply (h : KInv mo m k p) (hk : k ≤ 1000) (id n : Int) : KInv mo m (k + 1) (replyP id n p).1 := h.do hk 0 ⟨4, 0, id, 0, 0, n⟩
theorem KInv.drain (h : KInv mo m k p) (hk : k ≤ 1000) (ep : Int) : KInv mo m (k + 1) (drainP ep p) := h.do hk 0 ⟨8, 0, 0, ep, 0, 0⟩
theorem KInv.reap (h : KInv mo m k p) (hk : k ≤ 1000) (idl now : Int) : KInv mo m (k + 1) (reapP idl now p).1 := h.do hk idl ⟨9, 0, 0, 0, now, 0⟩
end
end

/- The document's layer 8: Same: contract; the calls whose answers the document fixes. -/
section
open Go.RowKit
set_option maxRecDepth 100000

set_option maxHeartbeats 4000000 in
theorem wsame_ok (A B : Option Addr) (n k c d : Nat) (xs ys : List Int) (w : World) (hx : NR w A n xs) (hy : NR w B k ys) (hn : n ≤ 1000) (hk : k ≤ 1000) (bo : Bool) (hbo : Hid (decide (xs = ys) = bo)) :
    Calls Try.prog 13 #[.slice A n c, .slice B k d] w fun e w' => e = .returned (.bool bo) ∧ w'.heap = w.heap ∧ Below w.heap.size w w' := by
  have HX := Lib.hid hx
  have HY := Lib.hid hy
  have hlx := hx.len
  have hly := hy.len
  clear hx hy
  by_cases hnk : n = k
  · subst hnk
    have HLX := Lib.hid hlx
    have HLY := Lib.hid hly
    clear hlx hly
    go_enter Try.func13, Try.ntmps13
    go_wp2_with fail
    go_loopw [5] (fun i wr => ∃ q : Nat, q ≤ n ∧ i = .int .i64 q ∧ Hid (∀ j (hj : j < xs.length) (hj2 : j < ys.length), j < q → xs[j] = ys[j]) ∧ Hid (wr.heap = w.heap ∧ Below w.heap.size w wr)) (fun i _ => n - (intOf i).toNat)
    case atStart => exact ⟨0, Nat.zero_le _, rfl, Lib.hid (fun j _ _ h => absurd h (Nat.not_lt_zero _)), Lib.hid ⟨rfl, Below.refl _ _⟩⟩
    case round =>
      obtain ⟨q, hq, rfl, he, hw⟩ := hrel
      by_cases hlt : q < n
      · have hqx : q < xs.length := by rw [HLX.out]; exact hlt
        have hqy : q < ys.length := by rw [HLY.out]; exact hlt
        obtain ⟨ax, rfl, _, cx⟩ := HX.out.at_ hqx
        obtain ⟨ay, rfl, _, cy⟩ := HY.out.at_ hqy
        have d1 := cx wr hw.out.2
        have d2 := cy wr hw.out.2
        clear cx cy
        have hi0 : (0 : Int) ≤ (q : Int) := by omega
        have hi1 : (q : Int) < (n : Int) := by omega
        by_cases hxy : xs[q] = ys[q]
        · have hq1 : (xs[q] == ys[q]) = true := by rw [hxy]; simp
          have he2 : Hid (∀ j (hj : j < xs.length) (hj2 : j < ys.length), j < q + 1 → xs[j] = ys[j]) := Lib.hid fun j hj hj2 hjq => by
            by_cases h : j = q
            · subst h; exact hxy
            · exact he.out j hj hj2 (by omega)
          clear he hxy
          generalize xs[q] = x at *
          generalize ys[q] = y at *
          go_wp2_with fail
          go_quiet (fail)
          go_wp2_with fail
          go_roundw
          case rel => exact ⟨q + 1, by omega, by go_num, he2, Lib.hid ⟨hw.out.1, kp_trans hw.out.2 (kp_drewN _ _)⟩⟩
          case measure => simp [intOf]; omega
        · have hq1 : (xs[q] == ys[q]) = false := by simpa using hxy
          have hb : bo = false := by
            rw [← hbo.out]
            exact decide_eq_false fun h => hxy (by subst h; rfl)
          subst hb
          clear he hxy
          generalize xs[q] = x at *
          generalize ys[q] = y at *
          go_wp2_with fail
          go_quiet (fail)
          go_wp2_with fail
          go_ret
          exact ⟨rfl, hw.out.1, kp_trans hw.out.2 (kp_drewN _ _)⟩
      · obtain rfl : q = n := by omega
        have hb : bo = true := by
          rw [← hbo.out]
          exact decide_eq_true (List.ext_getElem (by rw [HLX.out, HLY.out]) fun j h1 h2 => he.out j h1 h2 (by have := HLX.out; omega))
        subst hb
        clear he
        go_wp2_with fail
        go_ret
        exact ⟨rfl, hw.out.1, hw.out.2⟩
  · have hb : bo = false := by
      rw [← hbo.out]
      exact decide_eq_false fun h => hnk (by subst h; omega)
    subst hb
    have hne : ((n : Int) == (k : Int)) = false := by simp; omega
    clear hlx hly hbo
    go_enter Try.func13, Try.ntmps13
    go_wp2_with fail
    go_ret
    exact ⟨rfl, rfl, Below.refl _ _⟩
end
end Go.Proofs.Ytkbaljdpnopbmaa
