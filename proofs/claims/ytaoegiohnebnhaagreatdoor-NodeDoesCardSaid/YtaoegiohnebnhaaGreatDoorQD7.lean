/-
  Contracts and plain functions that the law stands on, part 7 of 24.
-/
import Derived.Test.YtaoegiohnebnhaaGreatDoorQD6
import Derived.Deep.AppendSrc
namespace Go.Proofs.YtaoegiohnebnhaaGreatDoor
/- An append of one element that tells where the row lies: where it lay, or in a new block (no function of the program is named here). -/
section
open Go.RowKit
set_option maxRecDepth 100000

theorem run_append_one {P : Program} {w : World} (t ty e : TypeId) (i : TypeInfo) (z : Value) (bytes : Nat) (ht : P.underlying t = some (.slice e)) (hi : P.info? e = some i) (hz : i.zero = some z)
    (hsize : i.size = 1) (hby : i.bytes = bytes) (hzs : z.cells.size = 1) {A : Option Addr} {n c : Nat} {xs : List Value} (hown : w.ownsRow 0 e 1 (.slice A n c) n xs) (ad : Addr) (c1 : Nat) (y : Value) (hy : w.cell? ad = some y) (h1 : y.oneCell' = true) (hn : n + 1 ≤ 1000) (hbytes : bytes ≤ 1000) :
    ∃ A' c' w', (Builtin.append_ #[t, t] ty #[.slice A n c, .slice (some ad) 1 c1]).run P w = .ok (.slice A' (n + 1) c') w' ∧ w'.ownsRow 0 e 1 (.slice A' (n + 1) c') (n + 1) (xs ++ [y]) ∧ w.grownBy w' (Value.slice A n c).ownBlock ∧
      ((Value.slice A' (n + 1) c').ownBlock = (Value.slice A n c).ownBlock ∨ ∃ g, (Value.slice A' (n + 1) c').ownBlock = some g ∧ w.heap.size ≤ g) := by
  have hcell : ∀ j u, [y][j]? = some u → w.cell? (ad.add j) = some u := fun j u hu => by
    match j, hu with
    | 0, hu =>
      rw [show ad.add 0 = ad from by unfold Addr.add; split <;> simp_all, hy]
      simpa using hu
  have hrd : Rd w (ad.block + 1) (some ad) [y] := .inr ⟨ad, rfl, Nat.lt_succ_self _, hcell⟩
  have hb1 : (n + 1) * bytes ≤ 140737488355328 := by
    have : (n + 1) * bytes ≤ 1000 * 1000 := Nat.mul_le_mul hn hbytes
    omega
  have ho1 : ∀ u ∈ [y], u.oneCell' = true := by simpa using h1
  obtain ⟨v', w', hr, h2, h3⟩ := run_append_rds (P := P) (w := w) 0 t ty e i z 1 bytes ht hi hz hsize hby hzs (by omega) (.slice A n c) n xs hown (ad.block + 1) (some ad) 1 c1 [y] rfl hrd ho1 (by unfold maxLen; omega) hb1 (Nat.zero_le _)
  obtain ⟨A', c', rfl, _, _⟩ := own_form_s h2
  refine ⟨A', c', w', hr, h2, h3, ?_⟩
  rcases hown.2 with ⟨h4, h5⟩ | ⟨g, cap, cur, h4, hbg, hg, hnc, hcm, hcs, htake⟩
  · injection h4 with e1 e2 e3
    subst e1 e2 e3
    obtain ⟨v2, w2, hr2, h22, _⟩ := run_append_rds (P := P) (w := w) w.heap.size t ty e i z 1 bytes ht hi hz hsize hby hzs (by omega) (.slice none 0 0) 0 xs ⟨hown.1, .inl ⟨rfl, rfl⟩⟩ (ad.block + 1) (some ad) 1 c1 [y] rfl hrd ho1 (by unfold maxLen; omega) hb1 (Nat.le_refl _)
    rw [hr] at hr2
    injection hr2 with e1 e2
    subst e1
    cases hq : (Value.slice A' (0 + 1) c').ownBlock with
    | none => exact .inl rfl
    | some g => exact .inr ⟨g, rfl, (h22.lt g hq).1⟩
  · injection h4 with e1 _ e3
    subst e1 e3
    have hs : Src P i.size t (.slice (some ad) 1 c1) 1 [y] w := Src.ofSlice w ht ad 1 c1 _ (by simp [hsize]) hcell ho1
    have hcs' : cur.size = c := by simpa using hcs
    by_cases hroom : n + 1 ≤ c
    · have hr2 := run_append_room_src (P := P) w t t ty e i ht hi g 0 n c _ 1 [y] hs hroom (fun j hj => by
          obtain rfl : j = 0 := by simpa using hj
          rw [hsize, show 0 + n * 1 + 0 = n by omega, cell_of_row _ _ n cur e (0, 0) hg, Array.getElem?_eq_getElem (by omega)]
          rfl) (fun j hj => frozen_of_row w g _ cur e hg)
      rw [hr] at hr2
      injection hr2 with e1 _
      injection e1 with e1 _ _
      subst e1
      exact .inl rfl
    · have hxl : xs.length = n := by simpa using hown.1
      have hold : (Builtin.firstCells i.size n (.slice (some ⟨g, 0, none⟩) n c)).run P w.drew = .ok xs.toArray w.drew := run_firstCells_some _ _ _ _ _ _ _ (by rw [hxl, hsize]; omega) fun j u hu => hown.cells (g := g) rfl j u hu
      have hr2 := run_append_grow_src (P := P) w t t ty e i z ht hi hz (some ⟨g, 0, none⟩) n c xs hold _ 1 [y] hs (by omega) (by omega) (growslice_fits (by omega) (by rw [hby]; exact hb1))
      rw [hr] at hr2
      injection hr2 with e1 _
      injection e1 with e1 _ _
      subst e1
      exact .inr ⟨_, rfl, Nat.le_refl _⟩
theorem wpList_append_run {P : Program} {ops : Array Oper} {rest : List Oper} {o : Oper} {a : Act} {w : World} {Q : Exit → Act → World → Prop} (hw : Region.wanted o (yielded ops a.tmps) = true) (s x : Operand) (t : TypeId)
    (ho : o.op = .call { callee := .builtin .append, args := #[s, x], argTypes := #[t, t] }) (v y : Value) (hs : a.eval s = v) (hx : a.eval x = y) {v3 : Value} {w3 : World}
    (hrun : (Builtin.append_ #[t, t] o.type #[v, y]).run P w = .ok v3 w3) (h : wpList P ops Q rest (a.put o.dst v3) w3) : wpList P ops Q (o :: rest) a w :=
  wpList_step fun _ hK => by
    rw [if_pos hw]
    unfold Oper.wp execOp
    simp only [ho, resolve, invoke, builtin, Sem.run_bind, Sem.run_pure, Result.andThen_ok, List.map_toArray, List.map_cons, List.map_nil, hs, hx, hrun]
    exact hK _ _ h
end

/- An append onto an empty literal: what lay there stays (no function of the program is named here). -/
section
open Go.RowKit
set_option maxRecDepth 100000

theorem run_append_empty {P : Program} {w : World} (base : Nat) (t ty e : TypeId) (i : TypeInfo) (z : Value) (size bytes : Nat) (ht : P.underlying t = some (.slice e)) (hi : P.info? e = some i) (hz : i.zero = some z)
    (hsize : i.size = size) (hby : i.bytes = bytes) (hzs : z.cells.size = size) (hsz : 0 < size) (g : Nat) (hown : w.ownsRow base e size (.slice (some ⟨g, 0, none⟩) 0 0) 0 [])
    (B : Nat) (A : Option Addr) (m c : Nat) (news : List Value) (hm : news.length = m * size) (hr : Rd w B A news) (h1 : ∀ u ∈ news, u.oneCell' = true)
    (h63 : m ≤ maxLen) (hbytes : m * bytes ≤ 140737488355328) (hbase : base ≤ w.heap.size) :
    ∃ v' w', (Builtin.append_ #[t, t] ty #[.slice (some ⟨g, 0, none⟩) 0 0, .slice A m c]).run P w = .ok v' w' ∧ w'.ownsRow base e size v' m news ∧ Below w.heap.size w w' := by
  obtain ⟨v', w', hrun, h2, h3⟩ := run_append_rds (P := P) (w := w) base t ty e i z size bytes ht hi hz hsize hby hzs hsz _ 0 [] hown B A m c news hm hr h1 (by omega) (by simpa using hbytes) hbase
  rw [Nat.zero_add, List.nil_append] at h2
  refine ⟨v', w', hrun, h2, ?_⟩
  cases A with
  | none =>
    have hn : news = [] := by
      rcases hr with h | ⟨_, h, _⟩
      · exact h
      · cases h
    subst hn
    obtain rfl : m = 0 := by
      rcases Nat.eq_zero_or_pos m with h | h
      · exact h
      · have := Nat.mul_pos h hsz
        simp at hm
        omega
    have hr2 := run_append_nothings (P := P) (w := w) base t ty e i size ht hi _ 0 c [] hown
    rw [hrun] at hr2
    injection hr2 with _ e2
    rw [e2]
    exact Below.refl _ _
  | some ad =>
    have hc : ∀ j u, news[j]? = some u → w.cell? (ad.add j) = some u := by
      intro j u hu
      rcases hr with h | ⟨ad', h, _, hc⟩
      · subst h; simp at hu
      · injection h with h; subst h; exact hc j u hu
    have hs : Src P i.size t (.slice (some ad) m c) m news w := Src.ofSlice w ht ad m c _ (by simp [hsize, hm]) hc h1
    by_cases hm0 : m = 0
    · subst hm0
      have hn : news = [] := List.eq_nil_of_length_eq_zero (by simpa using hm)
      subst hn
      have hr2 := run_append_room_src (P := P) w t t ty e i ht hi g 0 0 0 _ 0 [] hs (Nat.le_refl _) (fun j hj => absurd hj (Nat.not_lt_zero _)) (fun j hj => absurd hj (Nat.not_lt_zero _))
      rw [hrun] at hr2
      injection hr2 with _ e2
      rw [e2]
      exact Below.refl _ _
    · have hold : (Builtin.firstCells i.size 0 (.slice (some ⟨g, 0, none⟩) 0 0)).run P w.drew = .ok ([] : List Value).toArray w.drew := run_firstCells_some _ _ _ _ _ _ _ (by simp) fun j u hu => by simp at hu
      have hr2 := run_append_grow_src (P := P) w t t ty e i z ht hi hz (some ⟨g, 0, none⟩) 0 0 [] hold _ m news hs (by omega) (by unfold maxLen at h63; omega) (growslice_fits (by unfold maxLen at h63; omega) (by rw [hby]; simpa using hbytes))
      rw [hrun] at hr2
      injection hr2 with _ e2
      rw [e2]
      exact kp_alloc (Below.refl _ _).drew _
theorem wp_append_empty {P : Program} {w : World} {o : Oper} {a : Act} {K : Act → World → Prop} {Q : Exit → Act → World → Prop} (s x : Operand) (t : TypeId)
    (ho : o.op = .call { callee := .builtin .append, args := #[s, x], argTypes := #[t, t] })
    (base : Nat) (e : TypeId) (i : TypeInfo) (z : Value) (size bytes : Nat) (ht : P.underlying t = some (.slice e)) (hi : P.info? e = some i) (hz : i.zero = some z)
    (hsize : i.size = size) (hby : i.bytes = bytes) (hzs : z.cells.size = size) (hsz : 0 < size) (g : Nat) (hs : a.eval s = .slice (some ⟨g, 0, none⟩) 0 0) (hown : w.ownsRow base e size (.slice (some ⟨g, 0, none⟩) 0 0) 0 [])
    (B : Nat) (A : Option Addr) (m c : Nat) (news : List Value) (hx : a.eval x = .slice A m c) (hm : news.length = m * size) (hr : Rd w B A news) (h1 : ∀ u ∈ news, u.oneCell' = true)
    (h63 : m ≤ maxLen) (hbytes : m * bytes ≤ 140737488355328) (hbase : base ≤ w.heap.size)
    (h : ∀ v' w', w'.ownsRow base e size v' m news → Below w.heap.size w w' → K (a.put o.dst v') w') : o.wp P a w K Q := by
  obtain ⟨v', w', hrun, h2, h3⟩ := run_append_empty (P := P) base t o.type e i z size bytes ht hi hz hsize hby hzs hsz g hown B A m c news hm hr h1 h63 hbytes hbase
  unfold Oper.wp execOp
  simp only [ho, resolve, invoke, builtin, Sem.run_bind, Sem.run_pure, Result.andThen_ok, List.map_toArray, List.map_cons, List.map_nil, hs, hx, hrun]
  exact h v' w' h2 h3
end

/- A region that draws its order, gone through once an operation: each operation keeps what it keeps (Kp), and a slot's fact need not outlive operations that are done ahead of it. -/
section
open Go.RowKit

/-- an operation waits for another; for another, in some steps -/
def depB (ops : Array Oper) (i j : Nat) : Bool := match ops[i]? with
  | some o => o.after.any fun e => Region.binds .any e && e.on == j
  | none => false
def needB (ops : Array Oper) : Nat → Nat → Nat → Bool
  | 0, i, j => depB ops i j
  | f + 1, i, j => depB ops i j || (List.range ops.size).any fun k => depB ops i k && needB ops f k j
theorem needB_done {ops : Array Oper} {L : Nat → Bool} (hcl : ∀ k j, L k = true → depB ops k j = true → L j = true) : ∀ (f i j : Nat), (∀ k, depB ops i k = true → L k = true) → needB ops f i j = true → L j = true
  | 0, _, _, hi, h => hi _ h
  | f + 1, i, j, hi, h => by
    unfold needB at h
    rcases Bool.or_eq_true_iff.1 h with h | h
    · exact hi _ h
    · obtain ⟨k, _, hk⟩ := List.any_eq_true.1 h
      obtain ⟨h1, h2⟩ := Bool.and_eq_true_iff.1 hk
      exact needB_done hcl f k j (fun q hq => hcl k q (hi k h1) hq) h2
section
variable {P : Program} {ops : Array Oper} {Q : Exit → Act → World → Prop}

end
end

/- A region that draws its order, gone through once an operation: as XReg4, and besides: operations that name no slot (stores), and operations whose guard is known to fail. -/
section
open Go.RowKit

/-- the checks that a region's table must pass -/
def regOk5 (ops : Array Oper) (n : Nat) : Bool :=
  ops.toList.all (fun o => match o.dst with | some d => decide (d < n) | none => true) &&
  decide (dstsOf ops).Nodup &&
  ops.toList.zipIdx.all (fun (o, i) => o.after.all fun e => !Region.binds .any e || decide (e.on < i))
theorem once_filterMap {α β : Type} (f : α → Option β) : ∀ {l : List α}, (l.filterMap f).Nodup → ∀ {i j : Nat} {x y : α} {d : β}, l[i]? = some x → l[j]? = some y → f x = some d → f y = some d → i = j
  | [], _, _, _, _, _, _, h, _, _, _ => by simp at h
  | z :: r, hn, i, j, x, y, d, hi, hj, hx, hy => by
    have hr : (r.filterMap f).Nodup := by
      rw [List.filterMap_cons] at hn
      split at hn
      · exact hn
      · exact (List.nodup_cons.1 hn).2
    cases i with
    | zero =>
      cases j with
      | zero => rfl
      | succ j =>
        exfalso
        simp only [List.getElem?_cons_zero, Option.some.injEq] at hi
        simp only [List.getElem?_cons_succ] at hj
        subst hi
        rw [List.filterMap_cons, hx] at hn
        exact (List.nodup_cons.1 hn).1 (List.mem_filterMap.2 ⟨y, List.mem_of_getElem? hj, hy⟩)
    | succ i =>
      cases j with
      | zero =>
        exfalso
        simp only [List.getElem?_cons_zero, Option.some.injEq] at hj
        simp only [List.getElem?_cons_succ] at hi
        subst hj
        rw [List.filterMap_cons, hy] at hn
        exact (List.nodup_cons.1 hn).1 (List.mem_filterMap.2 ⟨x, List.mem_of_getElem? hi, hx⟩)
      | succ j =>
        simp only [List.getElem?_cons_succ] at hi hj
        rw [once_filterMap f hr hi hj hx hy]
section
variable {P : Program} {ops : Array Oper} {Q : Exit → Act → World → Prop}
end

/-- nothing is asked of what an operation keeps -/
def KeepT (_ : Nat) (_ _ : World) : Prop := True
end

/- A region that draws its order, gone through once an operation: as XReg5, but a slot's fact may turn with what is done (it need not outlive who reads it). -/
section
open Go.RowKit

/-- a fact of a value, by what is done; what each operation keeps keeps it -/
structure Stl (Kp : Nat → World → World → Prop) where
  p : (Nat → Bool) → Value → World → Prop
  st : ∀ i L v u u', L i = false → p L v u → Kp i u u' → p (doneB L i) v u'
def Stl.any (Kp : Nat → World → World → Prop) : Stl Kp := ⟨fun _ _ _ => True, fun _ _ _ _ _ _ _ _ => trivial⟩
/-- the value is known -/
def Stl.eq {Kp : Nat → World → World → Prop} (c : Value) : Stl Kp := ⟨fun _ v _ => v = c, fun _ _ _ _ _ _ h _ => h⟩
def Stl.find {Kp : Nat → World → World → Prop} : List (Nat × Stl Kp) → Nat → Stl Kp
  | [], _ => Stl.any Kp
  | (t, s) :: r, u => bif Nat.beq t u then s else Stl.find r u
theorem done_same {L : Nat → Bool} {i : Nat} : doneB L i i = true := by
  unfold doneB
  rw [show Nat.beq i i = true from Nat.beq_refl i]
  rfl
theorem done_mono {L : Nat → Bool} {i j : Nat} (h : L j = true) : doneB L i j = true := by
  unfold doneB
  cases Nat.beq j i with
  | true => rfl
  | false => exact h
theorem done_not {L : Nat → Bool} {i j : Nat} (h : doneB L i j = false) : L j = false ∧ j ≠ i := by
  refine ⟨?_, fun e => ?_⟩
  · cases hl : L j with
    | false => rfl
    | true => rw [done_mono hl] at h; cases h
  · subst e; rw [done_same] at h; cases h
section
variable {P : Program} {ops : Array Oper} {Q : Exit → Act → World → Prop}
/-- what one operation leaves -/
def Went6 (S : (Nat → Bool) → World → Prop) {Kp : Nat → World → World → Prop} (Sp : Nat → Stl Kp) (L : Nat → Bool) (i : Nat) (a : Act) (d : Option Tmp) (w : World) (a' : Act) (w' : World) : Prop :=
  ∃ v, a' = a.put d v ∧ S (doneB L i) w' ∧ Kp i w w' ∧ ∀ t, d = some t → (Sp t).p (doneB L i) v w'
theorem Went6.same {S : (Nat → Bool) → World → Prop} {Kp : Nat → World → World → Prop} {Sp : Nat → Stl Kp} {L : Nat → Bool} {i : Nat} {a : Act} {t : Nat} {w : World} {v : Value} (hr : Kp i w w) (hS : S (doneB L i) w) (h : (Sp t).p (doneB L i) v w)  : Went6 S Sp L i a (some t) w { tmps := a.tmps.setIfInBounds t v, defers := a.defers } w :=
  ⟨v, rfl, hS, hr, fun _ e => by injection e with e; subst e; exact h⟩
theorem Went6.next {S : (Nat → Bool) → World → Prop} {Kp : Nat → World → World → Prop} {Sp : Nat → Stl Kp} {L : Nat → Bool} {i : Nat} {a : Act} {t : Nat} {w w' : World} {v : Value} (hS : S (doneB L i) w') (hb : Kp i w w') (h : (Sp t).p (doneB L i) v w')  : Went6 S Sp L i a (some t) w { tmps := a.tmps.setIfInBounds t v, defers := a.defers } w' :=
  ⟨v, rfl, hS, hb, fun _ e => by injection e with e; subst e; exact h⟩
end
section
variable {P : Program} {ops : Array Oper} {Q : Exit → Act → World → Prop}
/-- what is asked of one operation -/
def OkOp6 (P : Program) (ops : Array Oper) (Q : Exit → Act → World → Prop) (S : (Nat → Bool) → World → Prop) {Kp : Nat → World → World → Prop} (Sp : Nat → Stl Kp) (a0 : Act) (i : Nat) (o : Oper) : Prop :=
  ∀ L a w, L i = false → StandI ops i a0 a → S L w → (∀ t, (waitsFor ops o).contains t = true → (Sp t).p L (a.tmps.getD t undef) w) → (∀ f j, needB ops f i j = true → L j = true) → (∀ f k, needB ops f k i = true → L k = false) →
    (Wants ops a o ∧ o.wp P a w (Went6 S Sp L i a o.dst w) Q) ∨ (WantsNot ops a o ∧ S (doneB L i) w ∧ Kp i w w ∧ ∀ t, o.dst = some t → (Sp t).p (doneB L i) undef w)

theorem wpAny_specs6 (S : (Nat → Bool) → World → Prop) {Kp : Nat → World → World → Prop} (Sp : Nat → Stl Kp) (a0 : Act) (hok : regOk5 ops a0.tmps.size = true)
    (each : EachOp (OkOp6 P ops Q S Sp a0) 0 ops.toList)
    (fin : ∀ L a w, (∀ j, j < ops.size → L j = true) → Stand ops a0 a → S L w → (∀ t, (dstsOf ops).contains t = true → (Sp t).p L (a.tmps.getD t undef) w) → Q .normal a w) :
    ∀ (fuel : Nat) (listed : Array Bool) (a : Act) (w : World), listed.size = ops.size → ((List.range ops.size).filter fun i => !listed.getD i true).length ≤ fuel →
      Stand ops a0 a → S (fun j => listed.getD j false) w → (∀ i d, listed.getD i false = true → dstOf ops i = some d → (Sp d).p (fun j => listed.getD j false) (a.tmps.getD d undef) w) →
      (∀ j d, j < ops.size → listed.getD j false = false → dstOf ops j = some d → a.tmps.getD d undef = a0.tmps.getD d undef) →
      (∀ j o, listed.getD j false = true → ops[j]? = some o → ∀ e ∈ o.after, Region.binds .any e = true → listed.getD e.on false = true) → wpAny P .any ops Q fuel listed a w := by
  simp only [regOk5, Bool.and_eq_true, List.all_eq_true, decide_eq_true_eq] at hok
  obtain ⟨⟨hdst, hnd⟩, hlow⟩ := hok
  have hdst' : ∀ o ∈ ops.toList, ∀ d, o.dst = some d → d < a0.tmps.size := fun o ho d hd => by
    have := hdst o ho
    rw [hd] at this
    simpa using this
  have hinj : ∀ i j d, dstOf ops i = some d → dstOf ops j = some d → i = j := fun i j d hi hj => by
    unfold dstOf at hi hj
    obtain ⟨x, hx, hxd⟩ := Option.bind_eq_some_iff.1 hi
    obtain ⟨y, hy, hyd⟩ := Option.bind_eq_some_iff.1 hj
    exact once_filterMap (l := ops.toList) (fun o : Oper => o.dst) hnd (by simpa using hx) (by simpa using hy) hxd hyd
  have hready0 : ∀ listed : Array Bool, listed.size = ops.size → Region.ready .any ops listed = [] → ∀ i, i < ops.size → listed.getD i false = true := by
    intro listed hsz hr i
    induction i using Nat.strongRecOn with
    | _ i ih =>
      intro hi
      cases hl : listed.getD i false with
      | true => rfl
      | false =>
        exfalso
        have hl2 : listed.getD i true = false := by
          rw [Array.getD_eq_getD_getElem?, Array.getElem?_eq_getElem (by omega)] at hl ⊢; simpa using hl
        have hm : i ∈ Region.ready .any ops listed := by
          unfold Region.ready
          rw [List.mem_filter]
          refine ⟨List.mem_range.2 hi, ?_⟩
          rw [hl2, Array.getElem?_eq_getElem hi]
          simp only [Bool.not_false, Bool.true_and, Option.map_some, Option.getD_some, Array.all_eq_true_iff_forall_mem]
          intro e he
          have h1 := hlow (ops[i], i) (by rw [List.mem_zipIdx_iff_getElem?]; simp [hi])
          simp only [Array.all_eq_true_iff_forall_mem] at h1
          have h2 := h1 e he
          cases hb : Region.binds .any e with
          | false => simp
          | true =>
            rw [hb] at h2
            have h3 : e.on < i := by simpa using h2
            simp [ih e.on h3 (by omega)]
        rw [hr] at hm
        cases hm
  have hfin : ∀ listed a w, listed.size = ops.size → Stand ops a0 a → S (fun j => listed.getD j false) w → (∀ i d, listed.getD i false = true → dstOf ops i = some d → (Sp d).p (fun j => listed.getD j false) (a.tmps.getD d undef) w) → Region.ready .any ops listed = [] → Q .normal a w := by
    intro listed a w hsz hst hS hsp hr
    refine fin _ a w (hready0 listed hsz hr) hst hS fun t ht => ?_
    obtain ⟨o, ho, he⟩ := List.mem_filterMap.1 (List.contains_iff_mem.1 ht)
    obtain ⟨i, hi, hio⟩ := List.mem_iff_getElem.1 ho
    have hi' : i < ops.size := by simpa using hi
    have hd : dstOf ops i = some t := by
      unfold dstOf
      rw [Array.getElem?_eq_getElem hi', show ops[i] = o by rw [← hio]; simp]
      exact he
    exact hsp i t (hready0 listed hsz hr i hi') hd
  intro fuel
  induction fuel with
  | zero =>
    intro listed a w hsz hc hst hS hsp _ _
    have hr : Region.ready .any ops listed = [] := by
      have h0 : ((List.range ops.size).filter fun i => !listed.getD i true) = [] := List.eq_nil_of_length_eq_zero (by omega)
      unfold Region.ready
      rw [List.filter_eq_nil_iff] at h0 ⊢
      intro i hi
      have := h0 i hi
      simp only [Bool.not_eq_true] at this ⊢
      rw [this, Bool.false_and]
    exact ⟨hr, hfin listed a w hsz hst hS hsp hr⟩
  | succ fuel ih =>
    intro listed a w hsz hc hst hS hsp hun0 hcl
    refine ⟨hfin listed a w hsz hst hS hsp, fun i hi => ?_⟩
    unfold Region.ready at hi
    rw [List.mem_filter, List.mem_range] at hi
    obtain ⟨hilt, hi2⟩ := hi
    rw [Array.getElem?_eq_getElem hilt] at hi2
    simp only [Bool.and_eq_true, Option.map_some, Option.getD_some, Array.all_eq_true_iff_forall_mem] at hi2
    obtain ⟨hun, hdeps⟩ := hi2
    have hdi : dstOf ops i = (ops[i]).dst := by unfold dstOf; rw [Array.getElem?_eq_getElem hilt]; rfl
    have hthis := each.at_ i ops[i] (by simp [hilt])
    rw [Nat.zero_add] at hthis
    have hni : listed.getD i false = false := by
      have hl : listed.getD i true = false := by simpa using hun
      rw [Array.getD_eq_getD_getElem?, Array.getElem?_eq_getElem (by omega)] at hl ⊢
      simpa using hl
    have hold : ∀ t, (laterOf ops i).contains t = true → a.tmps.getD t undef = a0.tmps.getD t undef := fun t ht => by
      unfold laterOf at ht
      obtain ⟨o, ho, hot⟩ := List.mem_filterMap.1 (List.contains_iff_mem.1 ht)
      rw [List.mem_filter] at ho
      obtain ⟨j, hj, hje⟩ := List.mem_iff_getElem.1 ho.1
      have hj' : j < ops.size := by simpa using hj
      have hjo : ops[j]? = some o := by rw [Array.getElem?_eq_getElem hj', ← hje]; simp
      have hdj : dstOf ops j = some t := by unfold dstOf; rw [hjo]; exact hot
      refine hun0 j t hj' ?_ hdj
      rw [Bool.eq_false_iff]
      intro hlj
      obtain ⟨e, he, h2⟩ := Array.any_eq_true'.1 ho.2
      simp only [Bool.and_eq_true, beq_iff_eq] at h2
      have := hcl j o hlj hjo e he h2.1
      rw [h2.2, hni] at this
      cases this
    have hclB : ∀ k q, (fun j => listed.getD j false) k = true → depB ops k q = true → (fun j => listed.getD j false) q = true := fun k q hk hq => by
      unfold depB at hq
      cases hko : ops[k]? with
      | none => rw [hko] at hq; cases hq
      | some o =>
        rw [hko] at hq
        obtain ⟨e, he, h3⟩ := Array.any_eq_true'.1 hq
        simp only [Bool.and_eq_true, beq_iff_eq] at h3
        have h4 := hcl k o hk hko e he h3.1
        rw [h3.2] at h4
        exact h4
    have hor := hthis _ a w hni ⟨hst, hold⟩ hS (fun t ht => by
      unfold waitsFor at ht
      obtain ⟨e, he, het⟩ := List.mem_filterMap.1 (List.contains_iff_mem.1 ht)
      rw [List.mem_filter] at he
      have := hdeps e (by simpa using he.1)
      rw [he.2] at this
      exact hsp e.on t (by simpa using this) het) (fun f j hj => needB_done (L := fun j => listed.getD j false) (fun k q hk hq => by
        unfold depB at hq
        cases hko : ops[k]? with
        | none => rw [hko] at hq; cases hq
        | some o =>
          rw [hko] at hq
          obtain ⟨e, he, h3⟩ := Array.any_eq_true'.1 hq
          simp only [Bool.and_eq_true, beq_iff_eq] at h3
          have h4 := hcl k o hk hko e he h3.1
          rw [h3.2] at h4
          exact h4) f i j (fun k hk => by
        unfold depB at hk
        rw [Array.getElem?_eq_getElem hilt] at hk
        obtain ⟨e, he, h3⟩ := Array.any_eq_true'.1 hk
        simp only [Bool.and_eq_true, beq_iff_eq] at h3
        have h4 := hdeps e he
        rw [h3.1, h3.2] at h4
        simpa using h4) hj) (fun f k hk => by
        cases hlk : listed.getD k false with
        | false => rfl
        | true =>
          have h6 : listed.getD i false = true := needB_done (L := fun j => listed.getD j false) hclB f k i (fun q hq => hclB k q hlk hq) hk
          rw [hni] at h6
          cases h6)
    suffices key : ∀ a' w', Went6 S Sp (fun j => listed.getD j false) i a (ops[i]).dst w a' w' → wpAny P .any ops Q fuel (listed.setIfInBounds i true) a' w' by
      unfold wpOp
      simp only [Array.getElem?_eq_getElem hilt]
      rcases hor with ⟨hw, hwp⟩ | ⟨hw, hS', hk', hsp'⟩
      · simp only [wants hw, if_true]
        exact .inl (Oper.wp_mono (fun a' w' h => key a' w' h) hwp)
      · rw [wants_not hw]
        simp only [Bool.false_eq_true, if_false]
        exact key _ _ ⟨undef, rfl, hS', hk', hsp'⟩
    rintro a' w' ⟨v, rfl, hS', hb, hsp'⟩
    have hval : ∀ d, (ops[i]).dst = some d → ((a.put (ops[i]).dst v).tmps.getD d undef) = v := fun d hd => by
      rw [hd]
      simp only [Act.put]
      rw [Array.getD_eq_getD_getElem?, Array.getElem?_setIfInBounds_self_of_lt (by rw [hst.size]; exact hdst' ops[i] (by simp) d hd)]
      rfl
    have hoth : ∀ t, (ops[i]).dst ≠ some t → (a.put (ops[i]).dst v).tmps.getD t undef = a.tmps.getD t undef := fun t ht => by
      cases hd : (ops[i]).dst with
      | none => rfl
      | some d =>
        simp only [Act.put]
        rw [Array.getD_eq_getD_getElem?, Array.getD_eq_getD_getElem?, Array.getElem?_setIfInBounds_ne (fun h => ht (by rw [hd, h]))]
    have hput : (a.put (ops[i]).dst v).tmps.size = a0.tmps.size ∧ (a.put (ops[i]).dst v).defers = a0.defers := by
      cases (ops[i]).dst <;> simp [Act.put, hst.size, hst.defers]
    have hset : ∀ j, j ≠ i → (listed.setIfInBounds i true).getD j false = listed.getD j false := fun j hji => by
      rw [Array.getD_eq_getD_getElem?, Array.getElem?_setIfInBounds_ne (fun h => hji h.symm), ← Array.getD_eq_getD_getElem?]
    have hseti : (listed.setIfInBounds i true).getD i false = true := by
      rw [Array.getD_eq_getD_getElem?, Array.getElem?_setIfInBounds_self_of_lt (by omega)]; rfl
    refine ih _ _ _ (by simp [hsz]) ?_ ⟨hput.1, hput.2, fun t ht => ?_⟩ (by rw [doneB_ext (L := fun j => listed.getD j false) (i := i) (M := fun j => (listed.setIfInBounds i true).getD j false) hseti hset]; exact hS') (fun j dj hj hdj => ?_) (fun j dj hj hlj hdj => ?_) (fun j o hlj hjo e he hb2 => ?_)
    · have hl : listed.getD i true = false := by simpa using hun
      have := filter_lt (l := List.range ops.size) (p := fun j => !listed.getD j true) (q := fun j => !(listed.setIfInBounds i true).getD j true) (fun x hx => by
        by_cases hxi : i = x
        · subst hxi
          rw [Array.getD_eq_getD_getElem?, Array.getElem?_setIfInBounds_self_of_lt (by omega)] at hx
          simp at hx
        · rw [Array.getD_eq_getD_getElem?, Array.getElem?_setIfInBounds_ne hxi, ← Array.getD_eq_getD_getElem?] at hx
          exact hx) (i := i) (List.mem_range.2 hilt) (by simp [hl]) (by
          rw [Array.getD_eq_getD_getElem?, Array.getElem?_setIfInBounds_self_of_lt (by omega)]; simp)
      omega
    · rw [hoth t, hst.out t ht]
      intro e
      have : (dstsOf ops).contains t = true := List.contains_iff_mem.2 (List.mem_filterMap.2 ⟨ops[i], by simp, e⟩)
      rw [this] at ht
      cases ht
    · by_cases hji : j = i
      · subst hji
        rw [hdi] at hdj
        rw [hval dj hdj, doneB_ext (L := fun q => listed.getD q false) (i := j) (M := fun q => (listed.setIfInBounds j true).getD q false) hseti hset]
        exact hsp' dj hdj
      · have hne : (ops[i]).dst ≠ some dj := fun e => hji (hinj j i dj hdj (hdi.trans e))
        rw [hoth dj hne]
        rw [Array.getD_eq_getD_getElem?, Array.getElem?_setIfInBounds_ne (fun h => hji h.symm), ← Array.getD_eq_getD_getElem?] at hj
        rw [doneB_ext (L := fun j => listed.getD j false) (i := i) (M := fun j => (listed.setIfInBounds i true).getD j false) hseti hset]
        exact (Sp dj).st i _ _ _ _ hni (hsp j dj hj hdj) hb
    · have hji : j ≠ i := fun h => by rw [h, hseti] at hlj; cases hlj
      rw [hset j hji] at hlj
      rw [hoth dj (fun e => hji (hinj j i dj hdj (hdi.trans e)))]
      exact hun0 j dj hj hlj hdj
    · have hon : listed.getD e.on false = true := by
        by_cases hji : j = i
        · subst hji
          rw [Array.getElem?_eq_getElem hilt] at hjo
          injection hjo with hjo
          subst hjo
          have := hdeps e he
          rw [hb2] at this
          simpa using this
        · rw [hset j hji] at hlj
          exact hcl j o hlj hjo e he hb2
      by_cases hei : e.on = i
      · rw [hei]; exact hseti
      · rw [hset _ hei]; exact hon

theorem wp_region_specs6 {id : Nat} {a0 : Act} {w0 : World} (S : (Nat → Bool) → World → Prop) {Kp : Nat → World → World → Prop} (Sp : List (Nat × Stl Kp)) (hm : P.follows .mixedOrders = true) (hok : regOk5 ops a0.tmps.size = true) (hS : S (fun _ => false) w0.drew)
    (each : EachOp (OkOp6 P ops Q S (Stl.find Sp) a0) 0 ops.toList)
    (fin : ∀ L a w, (∀ j, Nat.blt j ops.size = true → L j = true) → Stand ops a0 a → S L w → (∀ t, (dstsOf ops).contains t = true → (Stl.find Sp t).p L (a.tmps.getD t undef) w) → Q .normal a w) :
    (Code.region id ops true).wp P Q a0 w0 :=
  wp_region_any hm (wpAny_specs6 S (Stl.find Sp) a0 hok each (fun L a w hL => fin L a w fun j hj => hL j (Nat.le_of_ble_eq_true hj)) _ _ _ _ (by simp) (by
    refine Nat.le_trans (List.length_filter_le _ _) (by simp)) ⟨rfl, rfl, fun _ _ => rfl⟩ (by rw [show (fun j => (Array.replicate ops.size false).getD j false) = fun _ => false from by funext j; rw [Array.getD_eq_getD_getElem?, Array.getElem?_replicate]; split <;> rfl]; exact hS) (fun i d h => by
    exfalso
    rw [Array.getD_eq_getD_getElem?, Array.getElem?_replicate] at h
    split at h <;> simp at h) (fun _ _ _ _ _ => rfl) (fun j o h => by
    exfalso
    rw [Array.getD_eq_getD_getElem?, Array.getElem?_replicate] at h
    split at h <;> simp at h))
end

/-- what an operation that isn't one of these two leaves is new -/
def Kp2 (d1 d2 : Nat) (i : Nat) (u u' : World) : Prop := i ≠ d1 → i ≠ d2 → Below u.heap.size u u'
theorem Kp2.refl (d1 d2 i : Nat) (u : World) : Kp2 d1 d2 i u u := fun _ _ => Below.refl _ _
/-- a row of the call's own, till one of two operations is done -/
def rowL (d1 d2 : Nat) (B : Nat) (T : TypeId) (size n : Nat) (xs : List Value) : Stl (Kp2 d1 d2) where
  p := fun L v u => ∃ D e, v = .slice D n e ∧ (L d1 = false → L d2 = false → u.ownsRow B T size (.slice D n e) n xs)
  st := fun i L v u u' _ h hk => by
    obtain ⟨D, e, hv, h⟩ := h
    refine ⟨D, e, hv, fun h1 h2 => ?_⟩
    obtain ⟨a1, b1⟩ := done_not h1
    obtain ⟨a2, b2⟩ := done_not h2
    exact own_below_s (h a1 a2) (hk (fun e => b1 e.symm) (fun e => b2 e.symm)) (Nat.le_refl _)
/-- a row of the call's own, from one operation on, till another -/
def rowK (d1 d2 : Nat) (B : Nat) (T : TypeId) (size n : Nat) (xs : List Value) : Stl (Kp2 d1 d2) where
  p := fun L v u => L d1 = true ∧ ∃ D e, v = .slice D n e ∧ (L d2 = false → u.ownsRow B T size (.slice D n e) n xs)
  st := fun i L v u u' hi h hk => by
    obtain ⟨h0, D, e, hv, h⟩ := h
    refine ⟨done_mono h0, D, e, hv, fun h2 => ?_⟩
    obtain ⟨a2, b2⟩ := done_not h2
    exact own_below_s (h a2) (hk (fun e => by subst e; rw [hi] at h0; cases h0) (fun e => b2 e.symm)) (Nat.le_refl _)
/-- an empty literal -/
def nilL (d1 d2 : Nat) (B : Nat) (T : TypeId) (size : Nat) : Stl (Kp2 d1 d2) where
  p := fun L v u => ∃ g, v = .slice (some ⟨g, 0, none⟩) 0 0 ∧ (L d1 = false → L d2 = false → u.ownsRow B T size (.slice (some ⟨g, 0, none⟩) 0 0) 0 [])
  st := fun i L v u u' _ h hk => by
    obtain ⟨g, e, h⟩ := h
    refine ⟨g, e, fun h1 h2 => ?_⟩
    obtain ⟨a1, b1⟩ := done_not h1
    obtain ⟨a2, b2⟩ := done_not h2
    exact own_below_s (h a1 a2) (hk (fun e => b1 e.symm) (fun e => b2 e.symm)) (Nat.le_refl _)
/-- a fact of a value that new blocks leave alone, till one of two operations is done -/
def belL (d1 d2 : Nat) (q : Value → World → Prop) (hq : ∀ v u u', q v u → Below u.heap.size u u' → q v u') (q0 : Value → Prop) : Stl (Kp2 d1 d2) where
  p := fun L v u => q0 v ∧ (L d1 = false → L d2 = false → q v u)
  st := fun i L v u u' _ h hk => ⟨h.1, fun h1 h2 => by
    obtain ⟨a1, b1⟩ := done_not h1
    obtain ⟨a2, b2⟩ := done_not h2
    exact hq v u u' (h.2 a1 a2) (hk (fun e => b1 e.symm) (fun e => b2 e.symm))⟩
/-- a value of a form, with a row that new blocks leave alone, till one of two operations is done -/
def shL (d1 d2 : Nat) (mk : Option Addr → Nat → Nat → Value) (q : World → Option Addr → Nat → Prop) (hq : ∀ u u' D m, q u D m → Below u.heap.size u u' → q u' D m) : Stl (Kp2 d1 d2) where
  p := fun L v u => ∃ D m e, v = mk D m e ∧ (L d1 = false → L d2 = false → q u D m)
  st := fun i L v u u' _ h hk => by
    obtain ⟨D, m, e, hv, h⟩ := h
    refine ⟨D, m, e, hv, fun h1 h2 => ?_⟩
    obtain ⟨a1, b1⟩ := done_not h1
    obtain ⟨a2, b2⟩ := done_not h2
    exact hq u u' D m (h a1 a2) (hk (fun e => b1 e.symm) (fun e => b2 e.symm))
/-- ahead of the last operation what is left is new; behind it F holds -/
def SL6 (st : Nat) (W : World) (F : World → Prop) (L : Nat → Bool) (u : World) : Prop := bif L st then F u else Below W.heap.size W u
theorem SL6.ahead {st : Nat} {W u : World} {F : World → Prop} {L : Nat → Bool} (h : SL6 st W F L u) (h0 : L st = false) : Below W.heap.size W u := by
  unfold SL6 at h
  rw [h0] at h
  exact h
theorem SL6.of {st : Nat} {W u : World} {F : World → Prop} {L : Nat → Bool} (h0 : L st = false) (h : Below W.heap.size W u) : SL6 st W F L u := by
  unfold SL6
  rw [h0]
  exact h
theorem SL6.done {st : Nat} {W u : World} {F : World → Prop} {L : Nat → Bool} (h : SL6 st W F L u) (h0 : L st = true) : F u := by
  unfold SL6 at h
  rw [h0] at h
  exact h
theorem SL6.last {st : Nat} {W u : World} {F : World → Prop} {L : Nat → Bool} (h0 : L st = true) (h : F u) : SL6 st W F L u := by
  unfold SL6
  rw [h0]
  exact h
end
end Go.Proofs.YtaoegiohnebnhaaGreatDoor
