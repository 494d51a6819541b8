/-
  Contracts and plain functions that the law stands on, part 11 of 16.
-/
import Derived.Test.YtaoegiohnebnhaaGreatDoorQA10
namespace Go.Proofs.YtaoegiohnebnhaaGreatDoor
/- The landed node as a thing: its blocks and what each of them is for; what is left when one part of it is changed. -/
section
open Go.RowKit Go.Maps Go.WideMaps
set_option maxRecDepth 100000

/-- what a block is for -/
inductive Role where
  | top | cls | log | map
  | tx (c : Int)
structure TxR (w : World) (S : Nat → Prop) (col : Nat → Role) (c : Int) (A : Option Addr) (m d : Nat) (ts : List ByteArray) : Prop where
  own : w.ownsRow 0 9 1 (.slice A m d) m (tvs ts)
  at_ : ∀ g, (Value.slice A m d).ownBlock = some g → S g ∧ col g = .tx c
structure PNx (b : Nat) (n : Nd) (cb bm : Nat) (AL : Option Addr) (nl cl : Nat) (W : Wts) (col : Nat → Role) (S : Nat → Prop) (w : World) : Prop where
  top : w.heap[b]? = some (.cells #[.pointer (some ⟨cb, 0, none⟩), .int .u64 n.ep, .bool n.ld, .slice AL nl cl, .map (some bm)] 83 (0, 0))
  lg : w.ownsRow 0 65 2 (.slice AL nl cl) nl (lgC n.lg)
  map : MapW w bm n.op.length W
  op : ∀ c, I64n c → (opOf c n.op = none ∧ W c = none) ∨ ∃ ts A m d, opOf c n.op = some ts ∧ W c = some (A, m, d) ∧ TxR w S col c A m d ts
  cls : (CT cb).p (fun k => S k ∧ col k = .cls) w
  sb : S b ∧ col b = .top
  sm : S bm ∧ col bm = .map
  sl : ∀ g, (Value.slice AL nl cl).ownBlock = some g → S g ∧ col g = .log
  lt : ∀ k, S k → k < w.heap.size
theorem flat_own {w : World} {base n c size : Nat} {e : TypeId} {A : Option Addr} {xs : List Value} (h : w.ownsRow base e size (.slice A n c) n xs) : flat A := by
  intro a ha
  subst ha
  rcases h.2 with ⟨h1, _⟩ | ⟨g, cap, cur, h1, _⟩
  · cases h1
  · injection h1 with h1 _ _
    injection h1 with h1
    rw [h1]
/-- another map from blocks on: what was there keeps its role, what is new has this one -/
def colN (col : Nat → Role) (z : Nat) (r : Role) : Nat → Role := fun k => if k < z then col k else r
theorem colN_old {col : Nat → Role} {z k : Nat} {r : Role} (h : k < z) : colN col z r k = col k := if_pos h
theorem colN_new {col : Nat → Role} {z k : Nat} {r : Role} (h : z ≤ k) : colN col z r k = r := if_neg (by omega)
section
variable {b : Nat} {n : Nd} {cb bm : Nat} {AL : Option Addr} {nl cl : Nat} {W : Wts} {col : Nat → Role} {S : Nat → Prop} {w w' : World}
theorem PNx.llen (h : PNx b n cb bm AL nl cl W col S w) : n.lg.length = nl := by
  have := h.lg.1
  rw [lgC_length] at this
  omega
theorem PNx.lr (h : PNx b n cb bm AL nl cl W col S w) : LR w AL nl n.lg := LR.of_own h.lg
theorem TxR.xr {c : Int} {A : Option Addr} {m d : Nat} {ts : List ByteArray} (h : TxR w S col c A m d ts) : XR w A m ts := XR.of_own h.own
/-- what was in its blocks is as it was -/
theorem PNx.keep (h : PNx b n cb bm AL nl cl W col S w) (hk : ∀ k, S k → w'.heap[k]? = w.heap[k]?) (hz : w.heap.size ≤ w'.heap.size) : PNx b n cb bm AL nl cl W col S w' :=
  { h with
    top := (hk _ h.sb.1).trans h.top
    lg := own_keep h.lg fun g hg => hk _ (h.sl g hg).1
    map := h.map.keep (hk _ h.sm.1)
    op := fun c hc => (h.op c hc).imp id fun ⟨ts, A, m, d, h1, h2, h3⟩ => ⟨ts, A, m, d, h1, h2, own_keep h3.own fun g hg => hk _ (h3.at_ g hg).1, h3.at_⟩
    cls := (CT cb).keep h.cls (fun k hk2 => hk k hk2.1) hz
    lt := fun k hk => Nat.lt_of_lt_of_le (h.lt k hk) hz }
/-- a block of another role is another block -/
theorem PNx.tops (h : PNx b n cb bm AL nl cl W col S w) : w.cell? ⟨b, 0, none⟩ = some (.pointer (some ⟨cb, 0, none⟩)) ∧ w.cell? ⟨b, 1, none⟩ = some (.int .u64 n.ep) ∧ w.cell? ⟨b, 2, none⟩ = some (.bool n.ld) ∧ w.cell? ⟨b, 3, none⟩ = some (.slice AL nl cl) ∧ w.cell? ⟨b, 4, none⟩ = some (.map (some bm)) :=
  ⟨(cellsAt h.top 0 rfl).1, (cellsAt h.top 1 rfl).1, (cellsAt h.top 2 rfl).1, (cellsAt h.top 3 rfl).1, (cellsAt h.top 4 rfl).1⟩
theorem PNx.thaw (h : PNx b n cb bm AL nl cl W col S w) : w.frozen? ⟨b, 1, none⟩ = false ∧ w.frozen? ⟨b, 2, none⟩ = false ∧ w.frozen? ⟨b, 3, none⟩ = false :=
  ⟨(cellsAt h.top 1 (v := .int .u64 n.ep) rfl).2, (cellsAt h.top 2 (v := .bool n.ld) rfl).2, (cellsAt h.top 3 (v := .slice AL nl cl) rfl).2⟩
/-- another log -/
theorem PNx.relog (h : PNx b n cb bm AL nl cl W col S w) {A' : Option Addr} {n' c' : Nat} {l' : List Lg} (ht : w'.heap[b]? = some (.cells #[.pointer (some ⟨cb, 0, none⟩), .int .u64 n.ep, .bool n.ld, .slice A' n' c', .map (some bm)] 83 (0, 0)))
    (hl : w'.ownsRow 0 65 2 (.slice A' n' c') n' (lgC l')) (hn : ∀ g, (Value.slice A' n' c').ownBlock = some g → (S g ∧ col g = .log) ∨ w.heap.size ≤ g)
    (hk : ∀ k, S k → k ≠ b → col k ≠ .log → w'.heap[k]? = w.heap[k]?) (hz : w.heap.size ≤ w'.heap.size) :
    PNx b { n with lg := l' } cb bm A' n' c' W (colN col w.heap.size .log) (fun k => S k ∨ (w.heap.size ≤ k ∧ k < w'.heap.size)) w' where
  top := ht
  lg := hl
  map := h.map.keep (hk _ h.sm.1 (fun e => by have := h.sb.2; rw [← e, h.sm.2] at this; cases this) (by rw [h.sm.2]; exact fun e => nomatch e))
  op := fun c hc => (h.op c hc).imp id fun ⟨ts, A, m, d, h1, h2, h3⟩ => ⟨ts, A, m, d, h1, h2, own_keep h3.own fun g hg => hk _ (h3.at_ g hg).1 (fun e => by have := h.sb.2; rw [← e, (h3.at_ g hg).2] at this; cases this) (by rw [(h3.at_ g hg).2]; exact fun e => nomatch e), fun g hg => ⟨.inl (h3.at_ g hg).1, by rw [colN_old (h.lt g (h3.at_ g hg).1)]; exact (h3.at_ g hg).2⟩⟩
  cls := by
    have h1 := (CT cb).keep h.cls (w' := w') (fun k hk2 => hk k hk2.1 (fun e => by have := h.sb.2; rw [← e, hk2.2] at this; cases this) (by rw [hk2.2]; exact fun e => nomatch e)) hz
    obtain ⟨h2, h3, x, h4⟩ := h1
    refine ⟨⟨.inl h2.1, by rw [colN_old (h.lt cb h2.1)]; exact h2.2⟩, fun k hk => ?_, x, h4.imp id fun ⟨q, a1, a2, a3, a4⟩ => ⟨q, a1, a2, a3, .inl a4.1, by rw [colN_old (h.lt q a4.1)]; exact a4.2⟩⟩
    rcases hk.1 with h5 | h5
    · exact Nat.lt_of_lt_of_le (h.lt k h5) hz
    · exact h5.2
  sb := ⟨.inl h.sb.1, by rw [colN_old (h.lt b h.sb.1)]; exact h.sb.2⟩
  sm := ⟨.inl h.sm.1, by rw [colN_old (h.lt bm h.sm.1)]; exact h.sm.2⟩
  sl := fun g hg => by
    rcases hn g hg with h1 | h1
    · exact ⟨.inl h1.1, by rw [colN_old (h.lt g h1.1)]; exact h1.2⟩
    · refine ⟨.inr ⟨h1, ?_⟩, colN_new h1⟩
      exact (hl.lt g hg).2
  lt := fun k hk => hk.elim (fun hk => Nat.lt_of_lt_of_le (h.lt k hk) hz) (fun hk => hk.2)
/-- other transactions: the map is written, and of the rows at most that of one connection -/
theorem PNx.remap (h : PNx b n cb bm AL nl cl W col S w) {n' : Nd} (hlg : n'.lg = n.lg) {W' : Wts} (c0 : Int)
    (ht : w'.heap[b]? = some (.cells #[.pointer (some ⟨cb, 0, none⟩), .int .u64 n'.ep, .bool n'.ld, .slice AL nl cl, .map (some bm)] 83 (0, 0)))
    (hm : MapW w' bm n'.op.length W') (ho : ∀ c, I64n c → c ≠ c0 → (opOf c n'.op = none ∧ W' c = none) ∨ (opOf c n'.op = opOf c n.op ∧ W' c = W c))
    (h0 : I64n c0 → (opOf c0 n'.op = none ∧ W' c0 = none) ∨ ∃ ts A m d, opOf c0 n'.op = some ts ∧ W' c0 = some (A, m, d) ∧ w'.ownsRow 0 9 1 (.slice A m d) m (tvs ts) ∧ ∀ g, (Value.slice A m d).ownBlock = some g → (S g ∧ col g = .tx c0) ∨ w.heap.size ≤ g)
    (hk : ∀ k, S k → k ≠ b → k ≠ bm → col k ≠ .tx c0 → w'.heap[k]? = w.heap[k]?) (hz : w.heap.size ≤ w'.heap.size) :
    PNx b n' cb bm AL nl cl W' (colN col w.heap.size (.tx c0)) (fun k => S k ∨ (w.heap.size ≤ k ∧ k < w'.heap.size)) w' := by
  have nb : ∀ k, S k → col k ≠ .top → k ≠ b := fun k _ hc e => hc (e ▸ h.sb.2)
  have nm : ∀ k, S k → col k ≠ .map → k ≠ bm := fun k _ hc e => hc (e ▸ h.sm.2)
  have hold : ∀ k, S k → colN col w.heap.size (.tx c0) k = col k := fun k hk => colN_old (h.lt k hk)
  refine ⟨ht, ?_, hm, fun c hc => ?_, ?_, ⟨.inl h.sb.1, (hold b h.sb.1).trans h.sb.2⟩, ⟨.inl h.sm.1, (hold bm h.sm.1).trans h.sm.2⟩, fun g hg => ⟨.inl (h.sl g hg).1, (hold g (h.sl g hg).1).trans (h.sl g hg).2⟩, fun k hk => hk.elim (fun hk => Nat.lt_of_lt_of_le (h.lt k hk) hz) (fun hk => hk.2)⟩
  · rw [hlg]
    exact own_keep h.lg fun g hg => by
      have h2 := (h.sl g hg).2
      exact hk g (h.sl g hg).1 (nb g (h.sl g hg).1 (by rw [h2]; exact fun e => nomatch e)) (nm g (h.sl g hg).1 (by rw [h2]; exact fun e => nomatch e)) (by rw [h2]; exact fun e => nomatch e)
  · by_cases e : c = c0
    · subst e
      refine (h0 hc).imp id fun ⟨ts, A, m, d, a1, a2, a3, a4⟩ => ⟨ts, A, m, d, a1, a2, a3, fun g hg => ?_⟩
      rcases a4 g hg with a5 | a5
      · exact ⟨.inl a5.1, (hold g a5.1).trans a5.2⟩
      · exact ⟨.inr ⟨a5, (a3.lt g hg).2⟩, colN_new a5⟩
    · rcases ho c hc e with h1 | ⟨h1, h2⟩
      · exact .inl h1
      · rw [h1, h2]
        refine (h.op c hc).imp id fun ⟨ts, A, m, d, a1, a2, a3⟩ => ⟨ts, A, m, d, a1, a2, own_keep a3.own fun g hg => ?_, fun g hg => ⟨.inl (a3.at_ g hg).1, (hold g (a3.at_ g hg).1).trans (a3.at_ g hg).2⟩⟩
        have h2 := (a3.at_ g hg).2
        exact hk g (a3.at_ g hg).1 (nb g (a3.at_ g hg).1 (by rw [h2]; exact fun e => nomatch e)) (nm g (a3.at_ g hg).1 (by rw [h2]; exact fun e => nomatch e)) (by rw [h2]; exact fun e2 => e (by injection e2))
  · have h1 := (CT cb).keep h.cls (w' := w') (fun k hk2 => hk k hk2.1 (nb k hk2.1 (by rw [hk2.2]; exact fun e => nomatch e)) (nm k hk2.1 (by rw [hk2.2]; exact fun e => nomatch e)) (by rw [hk2.2]; exact fun e => nomatch e)) hz
    obtain ⟨h2, h3, x, h4⟩ := h1
    refine ⟨⟨.inl h2.1, (hold cb h2.1).trans h2.2⟩, fun k hk => ?_, x, h4.imp id fun ⟨q, a1, a2, a3, a4⟩ => ⟨q, a1, a2, a3, .inl a4.1, (hold q a4.1).trans a4.2⟩⟩
    rcases hk.1 with h5 | h5
    · exact Nat.lt_of_lt_of_le (h.lt k h5) hz
    · exact h5.2
/-- its Classer was asked -/
theorem PNx.classed (h : PNx b n cb bm AL nl cl W col S w) {x : Value} (hx : Cls w' cb (.int .u32 0) (.int .i32 0) x (.map none) ∨ ∃ q, Cls w' cb (.int .u32 1) (.int .i32 0) x (.map (some q)) ∧ MapAt w' q famL ∧ q ≠ cb ∧ ((S q ∧ col q = .cls) ∨ w.heap.size ≤ q))
    (hk : ∀ k, S k → k ≠ cb → w'.heap[k]? = w.heap[k]?) (hz : w.heap.size ≤ w'.heap.size) : PNx b n cb bm AL nl cl W (colN col w.heap.size .cls) (fun k => S k ∨ (w.heap.size ≤ k ∧ k < w'.heap.size)) w' := by
  have hcb := h.cls.1
  have nc : ∀ k, S k → col k ≠ .cls → k ≠ cb := fun k _ hc e => hc (e ▸ hcb.2)
  have hold : ∀ k, S k → colN col w.heap.size .cls k = col k := fun k hk => colN_old (h.lt k hk)
  refine ⟨(hk _ h.sb.1 (nc b h.sb.1 (by rw [h.sb.2]; exact fun e => nomatch e))).trans h.top, own_keep h.lg fun g hg => hk g (h.sl g hg).1 (nc g (h.sl g hg).1 (by rw [(h.sl g hg).2]; exact fun e => nomatch e)), h.map.keep (hk _ h.sm.1 (nc bm h.sm.1 (by rw [h.sm.2]; exact fun e => nomatch e))), fun c hc => ?_, ?_, ⟨.inl h.sb.1, (hold b h.sb.1).trans h.sb.2⟩, ⟨.inl h.sm.1, (hold bm h.sm.1).trans h.sm.2⟩, fun g hg => ⟨.inl (h.sl g hg).1, (hold g (h.sl g hg).1).trans (h.sl g hg).2⟩, fun k hk => hk.elim (fun hk => Nat.lt_of_lt_of_le (h.lt k hk) hz) (fun hk => hk.2)⟩
  · refine (h.op c hc).imp id fun ⟨ts, A, m, d, a1, a2, a3⟩ => ⟨ts, A, m, d, a1, a2, own_keep a3.own fun g hg => ?_, fun g hg => ⟨.inl (a3.at_ g hg).1, (hold g (a3.at_ g hg).1).trans (a3.at_ g hg).2⟩⟩
    exact hk g (a3.at_ g hg).1 (nc g (a3.at_ g hg).1 (by rw [(a3.at_ g hg).2]; exact fun e => nomatch e))
  · refine ⟨⟨.inl hcb.1, (hold cb hcb.1).trans hcb.2⟩, fun k hk => ?_, x, hx.imp id fun ⟨q, a1, a2, a3, a4⟩ => ⟨q, a1, a2, a3, ?_⟩⟩
    · rcases hk.1 with h5 | h5
      · exact Nat.lt_of_lt_of_le (h.lt k h5) hz
      · exact h5.2
    · rcases a4 with a4 | a4
      · exact ⟨.inl a4.1, (hold q a4.1).trans a4.2⟩
      · exact ⟨.inr ⟨a4, a2.lt⟩, colN_new a4⟩
end
/-- the landed node -/
def PN (b : Nat) (n : Nd) : Thing where
  p := fun S w => ∃ cb bm AL nl cl W col, PNx b n cb bm AL nl cl W col S w
  keep := fun ⟨_, _, _, _, _, _, _, h⟩ hk hz => ⟨_, _, _, _, _, _, _, h.keep hk hz⟩
  lt := fun ⟨_, _, _, _, _, _, _, h⟩ => h.lt
end

/- The landed node: Epoch, Leads, enter, Lead, Close, begin, rollback, pass: contracts. -/
section
open Go.RowKit Go.Maps Go.WideMaps
set_option maxRecDepth 100000

theorem idx_some {c : Int} {l : List Op15} : decide (0 ≤ idxOp c l) = (opOf c l).isSome := by
  cases h : opOf c l with
  | none =>
    rw [idxOp_none (opOf_none.1 h)]
    rfl
  | some ts =>
    have h1 : ¬ idxOp c l = -1 := fun e => by
      have h2 : ∀ o ∈ l, o.c ≠ c := by
        intro o ho hc
        obtain ⟨j, hj, rfl⟩ := List.getElem_of_mem ho
        have h3 := idxOp_ge c l
        clear h h3
        induction l generalizing j with
        | nil => simp at hj
        | cons q r ih =>
          unfold idxOp at e
          split at e
          · omega
          · rename_i hq
            cases j with
            | zero => exact hq hc
            | succ j =>
              have h4 := idxOp_ge c r
              split at e
              · exact ih (by omega) j (by simpa using hj) (List.getElem_mem _) hc
              · omega
      rw [opOf_none.2 h2] at h
      cases h
    have h2 := idxOp_ge c l
    simp
    omega
theorem dropOp_len {c : Int} {l : List Op15} (hn : (l.map Op15.c).Nodup) : (dropOp c l).length = if (opOf c l).isSome = true then l.length - 1 else l.length := by
  cases h : opOf c l with
  | none => rw [dropOp_no (opOf_none.1 h)]; rfl
  | some ts =>
    obtain ⟨o, ho, hc, _⟩ := opOf_mem h
    obtain ⟨j, hj, rfl⟩ := List.getElem_of_mem ho
    rw [dropOp_at hj hn hc]
    simp
    omega
theorem Off.grownS {S : Nat → Prop} {w w1 w2 : World} {row : Option Nat} (h : Off S w w1) (hg : w1.grownBy w2 row) (hr : ∀ g, row = some g → S g ∨ w.heap.size ≤ g) : Off S w w2 :=
  ⟨hg.os.trans h.os, hg.tape.trans h.tape, hg.output.trans h.output, Nat.le_trans h.size hg.size, fun k hk hn => (hg.block k (Nat.lt_of_lt_of_le hk h.size) (fun e => (hr k e.symm).elim hn (fun e2 => by omega))).trans (h.block k hk hn)⟩
section
variable {b : Nat} {n n' : Nd} {cb bm : Nat} {AL : Option Addr} {nl cl : Nat} {W W' : Wts} {col col' : Nat → Role} {S : Nat → Prop} {w w' : World}
theorem PN.turn (h : PNx b n' cb bm AL nl cl W' col' (fun k => S k ∨ (w.heap.size ≤ k ∧ k < w'.heap.size)) w') (ho : Off S w w') : Turn (PN b n') S w w' :=
  ⟨⟨_, ⟨_, _, _, _, _, _, _, h⟩, fun _ hk => hk.imp id (·.1)⟩, ho⟩
theorem PNx.some_ (h : PNx b n cb bm AL nl cl W col S w) {c : Int} (hc : I64n c) : (W c).isSome = (opOf c n.op).isSome := by
  rcases h.op c hc with ⟨h1, h2⟩ | ⟨ts, A, m, d, h1, h2, _⟩
  · rw [h1, h2]; rfl
  · rw [h1, h2]; rfl
theorem PNx.mne (h : PNx b n cb bm AL nl cl W col S w) : bm ≠ b := fun e => by
  have := h.sb.2
  rw [← e, h.sm.2] at this
  cases this
theorem pepoch15_ok (h : (PN b n).p S w) :
    Calls Tryz.prog 17 #[.pointer (some ⟨b, 0, none⟩)] w fun e w' => e = .returned (.int .u64 n.ep) ∧ Below w.heap.size w w' := by
  obtain ⟨cb, bm, AL, nl, cl, W, col, hx⟩ := h
  obtain ⟨_, c1, _⟩ := hx.tops
  clear hx
  go_enter Tryz.func17, Tryz.ntmps17
  go_wp2_with fail
  go_ret
  exact ⟨rfl, Below.refl _ _⟩
theorem pleads15_ok (h : (PN b n).p S w) :
    Calls Tryz.prog 18 #[.pointer (some ⟨b, 0, none⟩)] w fun e w' => e = .returned (.bool n.ld) ∧ Below w.heap.size w w' := by
  obtain ⟨cb, bm, AL, nl, cl, W, col, hx⟩ := h
  obtain ⟨_, _, c2, _⟩ := hx.tops
  clear hx
  go_enter Tryz.func18, Tryz.ntmps18
  go_wp2_with fail
  go_ret
  exact ⟨rfl, Below.refl _ _⟩
theorem penter_ok (e : Int) (l : Bool) (h : (PN b n).p S w) :
    Calls Tryz.prog 45 #[.pointer (some ⟨b, 0, none⟩), .int .u64 e, .bool l] w fun e' w' => e' = .returned (.tuple #[]) ∧ Turn (PN b ⟨e, l, n.lg, []⟩) S w w' := by
  obtain ⟨cb, bm, AL, nl, cl, W, col, hx⟩ := h
  obtain ⟨c0, c1, c2, c3, c4⟩ := hx.tops
  obtain ⟨f1, f2, f3⟩ := hx.thaw
  have hne := hx.mne
  have hz : ((w.setCell ⟨b, 1, none⟩ (.int .u64 e)).setCell ⟨b, 2, none⟩ (.bool l)).heap.size = w.heap.size := by rw [set_size, set_size]
  have hoq : Off S w ((w.setCell ⟨b, 1, none⟩ (.int .u64 e)).setCell ⟨b, 2, none⟩ (.bool l)) := Off.setCell (Off.setCell (Off.refl S w) (.inl hx.sb.1) _) (.inl hx.sb.1) _
  have hbq := heap_setCell_same _ b 2 _ _ (.bool l) (heap_setCell_same w b 1 _ _ (.int .u64 e) hx.top)
  have hkq : ∀ k, k ≠ b → ((w.setCell ⟨b, 1, none⟩ (.int .u64 e)).setCell ⟨b, 2, none⟩ (.bool l)).heap[k]? = w.heap[k]? := fun k hk => (set_other hk).trans (set_other hk)
  obtain ⟨w2, hrun, hm2, hg2⟩ := (hx.map.keep (hkq bm hne)).clear
  have hb2 := (hg2.block b (by rw [hz]; exact hx.lt b hx.sb.1) (fun e => hne (by injection e with e; exact e.symm))).trans hbq
  have hfin : Turn (PN b ⟨e, l, n.lg, []⟩) S w w2 := PN.turn (hx.remap (n' := ⟨e, l, n.lg, []⟩) rfl 0 hb2 hm2 (fun _ _ _ => .inl ⟨rfl, rfl⟩) (fun _ => .inl ⟨rfl, rfl⟩) (fun k hk h1 h2 _ => (hg2.block k (by rw [hz]; exact hx.lt k hk) (fun e => h2 (by injection e))).trans (hkq k h1)) (by have := hg2.size; omega))
    (hoq.grownS hg2 (fun g hg => by injection hg with hg; exact .inl (hg ▸ hx.sm.1)))
  have HF := Lib.hid hfin
  clear hx hne hz hoq hbq hkq hm2 hg2 hb2 hfin
  go_enter Tryz.func45, Tryz.ntmps45
  go_wp2_with fail
  go_end0
  exact ⟨rfl, HF.out⟩
theorem plead15_ok (e : Int) (h : (PN b n).p S w) :
    Calls Tryz.prog 27 #[.pointer (some ⟨b, 0, none⟩), .int .u64 e] w fun e' w' => e' = .returned (.bool (decide (n.ep ≤ e))) ∧ Turn (PN b (leadNd n e)) S w w' := by
  have HT := Lib.hid h
  have HE := Lib.hid (penter_ok e true h)
  obtain ⟨cb, bm, AL, nl, cl, W, col, hx⟩ := h
  obtain ⟨_, c1, _⟩ := hx.tops
  clear hx
  by_cases he : e < n.ep
  · rw [decide_eq_false (by omega), show leadNd n e = n from if_pos he]
    go_enter Tryz.func27, Tryz.ntmps27
    go_wp2_with fail
    go_ret
    exact ⟨rfl, Turn.here HT.out⟩
  · rw [decide_eq_true (by omega), show leadNd n e = ⟨e, true, n.lg, []⟩ from if_neg he]
    go_enter Tryz.func27, Tryz.ntmps27
    go_wp2_with fail
    refine HE.out.mono ?_
    rintro e' w2 ⟨rfl, ht⟩
    have HF := Lib.hid ht
    clear ht HE
    go_wp2_with fail
    go_ret
    exact ⟨rfl, HF.out⟩
/-- what is left of a transaction's place when it is dropped -/
theorem PNx.closed (h : PNx b n cb bm AL nl cl W col S w) (hn : (n.op.map Op15.c).Nodup) {c : Int} (hc : I64n c) (hm : MapW w' bm (if (W c).isSome = true then n.op.length - 1 else n.op.length) (updW W c none)) (hg : w.grownBy w' (some bm)) :
    PNx b (closeNd n c) cb bm AL nl cl (updW W c none) (colN col w.heap.size (.tx c)) (fun k => S k ∨ (w.heap.size ≤ k ∧ k < w'.heap.size)) w' := by
  have hne := h.mne
  refine h.remap (n' := closeNd n c) rfl c ((hg.block b (h.lt b h.sb.1) (fun e => hne (by injection e with e; exact e.symm))).trans h.top) ?_ (fun k hk e => .inr ⟨(dropOp_of c k n.op).trans (if_neg e), if_neg e⟩) (fun _ => .inl ⟨(dropOp_of c c n.op).trans (if_pos rfl), if_pos rfl⟩) (fun k hk _ h2 _ => hg.block k (h.lt k hk) (fun e => h2 (by injection e))) hg.size
  have e1 : (closeNd n c).op.length = if (W c).isSome = true then n.op.length - 1 else n.op.length := by
    rw [h.some_ hc]
    exact dropOp_len hn
  rw [e1]
  exact hm
theorem pclosex_ok (c : Int) (hc : I64n c) (hn : (n.op.map Op15.c).Nodup) (hx : PNx b n cb bm AL nl cl W col S w) :
    Calls Tryz.prog 30 #[.pointer (some ⟨b, 0, none⟩), .int .i64 c] w fun e w' => e = .returned (.bool (opOf c n.op).isSome) ∧ PNx b (closeNd n c) cb bm AL nl cl (updW W c none) (colN col w.heap.size (.tx c)) (fun k => S k ∨ (w.heap.size ≤ k ∧ k < w'.heap.size)) w' ∧ w.grownBy w' (some bm) := by
  obtain ⟨c0, c1, c2, c3, c4⟩ := hx.tops
  have hl := hx.map.look hc
  rw [hx.some_ hc] at hl
  obtain ⟨w2, hrun, hm2, hg2⟩ := hx.map.drop hc
  have HF := Lib.hid (And.intro (hx.closed hn hc hm2 hg2) hg2)
  clear hx hm2 hg2 hn
  generalize slV (W c) = v at *
  generalize (opOf c n.op).isSome = x at *
  go_enter Tryz.func30, Tryz.ntmps30
  go_wp2_with fail
  go_ret
  exact ⟨rfl, HF.out⟩
theorem PNx.clturn (h : PNx b n cb bm AL nl cl W col S w) (hp : PNx b n' cb bm AL nl cl W' col' (fun k => S k ∨ (w.heap.size ≤ k ∧ k < w'.heap.size)) w') (hg : w.grownBy w' (some bm)) : Turn (PN b n') S w w' :=
  PN.turn hp ((Off.refl S w).grownS hg (fun g hg => by injection hg with hg; exact .inl (hg ▸ h.sm.1)))
theorem pclose15_ok (c : Int) (hc : I64n c) (hn : (n.op.map Op15.c).Nodup) (h : (PN b n).p S w) :
    Calls Tryz.prog 30 #[.pointer (some ⟨b, 0, none⟩), .int .i64 c] w fun e w' => e = .returned (.bool (decide (0 ≤ idxOp c n.op))) ∧ Turn (PN b (closeNd n c)) S w w' := by
  obtain ⟨cb, bm, AL, nl, cl, W, col, hx⟩ := h
  refine (pclosex_ok c hc hn hx).mono ?_
  rintro e w' ⟨rfl, hp, hg⟩
  exact ⟨by rw [idx_some], hx.clturn hp hg⟩
end
end

/- The landed node: what is done of each class (a map of functions), New: contracts. -/
section
open Go.RowKit Go.Maps Go.WideMaps
set_option maxRecDepth 100000

/-- a function's value as a datum -/
def fnR : Value → Option (DataW Unit × List MemPlace)
  | .nilFunc => some (.lit (.int .i64 (-1)), [])
  | .func (.func f) a c => if a.size = 0 ∧ c.size = 0 then some (.lit (.int .i64 (f : Nat)), []) else none
  | _ => none
theorem fnR_inv {v : Value} {f : Nat} {ps : List MemPlace} (h : fnR v = some (.lit (.int .i64 (f : Nat)), ps)) : v = .func (.func f) #[] #[] := by
  unfold fnR at h
  split at h
  · simp only [Option.some.injEq, Prod.mk.injEq, DataW.lit.injEq, Lit.int.injEq, true_and] at h
    omega
  · split at h
    · rename_i hs
      simp only [Option.some.injEq, Prod.mk.injEq, DataW.lit.injEq, Lit.int.injEq, true_and] at h
      obtain ⟨h1, _⟩ := h
      rw [Int.ofNat.inj h1, Array.eq_empty_of_size_eq_zero hs.1, Array.eq_empty_of_size_eq_zero hs.2]
    · cases h
  · cases h
theorem fnZero (w : World) : (zeroValue 146).run Tryz.prog w = .ok .nilFunc w := by kernel_rfl
def datF (L : List (Int × Nat)) : DataW Unit := L.foldl (fun D p => D.put (.int .i64 p.1) (.lit (.int .i64 p.2))) (.map [])
theorem datF_push (L : List (Int × Nat)) (x : Int) (c : Nat) : datF (L ++ [(x, c)]) = (datF L).put (.int .i64 x) (.lit (.int .i64 c)) := by simp [datF, List.foldl_append]
structure LaidF (w0 : World) (b : Nat) (L : List (Int × Nat)) (w : World) : Prop where
  map : w.ownsMap Tryz.prog 3 fnR b L.length (datF L)
  low : Below w0.heap.size w0 w
  new : w0.heap.size ≤ b
theorem wpList_insertF {w0 : World} {b : Nat} {L : List (Int × Nat)} {w : World} (hl : LaidF w0 b L w) (hn : L.length < 1000) {ops : Array Oper} {rest : List Oper} {o : Oper} {a : Act} {Q : Exit → Act → World → Prop}
    (hg : o.guard = none) (m x v : Operand) (hop : o.op = Op.insert 147 m x v) (k : Int) (f : Nat) (hm : a.eval m = .map (some b)) (hx : a.eval x = .int .i64 k) (hv : a.eval v = .func (.func f) #[] #[]) (hk : I64n k)
    (hK : ∀ w', LaidF w0 b (L ++ [(k, f)]) w' → wpList Tryz.prog ops Q rest (a.put o.dst undef) w') :
    wpList Tryz.prog ops Q (o :: rest) a w := by
  refine wpList_plain hg fun K' hK' => ?_
  obtain ⟨w', hrun, r1, r2⟩ := World.ownsMap.update hl.map iKey Tryz.underlying147 (by unfold maxLen; omega) (iKeyOf hk) (show fnR (.func (.func f) #[] #[]) = some (.lit (.int .i64 (f : Nat)), []) from rfl)
  unfold Oper.wp
  simp [execOp, hop, hm, hx, hv, hrun, Result.andThen]
  refine hK' _ _ (hK w' ⟨?_, ?_, hl.new⟩)
  · rw [datF_push, List.length_append]
    exact r1
  · exact hl.low.grown r2 hl.low.size (fun k hk => by cases hk; exact hl.new)
def actL : List (Int × Nat) := [(1, 102), (2, 103), (3, 104), (4, 105), (5, 106), (6, 107), (7, 103)]
theorem actL_at : ∀ p ∈ actL, ∀ z, (datF actL).atKey (.int .i64 p.1) z = .lit (.int .i64 (p.2 : Nat)) := by
  intro p hp z
  simp only [actL, List.mem_cons, List.not_mem_nil, or_false] at hp
  rcases hp with rfl | rfl | rfl | rfl | rfl | rfl | rfl <;> rfl
theorem acts_ok (w : World) : Calls Tryz.prog 74 #[] w fun e w' => ∃ bm, e = .returned (.map (some bm)) ∧ (∀ p ∈ actL, (Instr.lookup 147 (.map (some bm)) (.int .i64 p.1) false).run Tryz.prog w' = .ok (.func (.func p.2) #[] #[]) w') ∧ Below w.heap.size w w' := by
  have hmm := @run_makeMap Tryz.prog
  have hl : LaidF w w.heap.size [] (w.alloc (.map #[] 0)) := ⟨World.ownsMap_made _ _ _ _, kp_new _ _, Nat.le_refl _⟩
  go_enter Tryz.func74, Tryz.ntmps74
  go_wp2_with (refine wpList_insertF hl (by simp) rfl _ _ _ rfl _ _ rfl rfl rfl (by unfold I64n; omega) ?_; clear hl; intro w1 hl)
  go_ret
  refine ⟨_, rfl, fun p hp => ?_, hl.low⟩
  have hp64 : I64n p.1 := by
    simp only [actL, List.mem_cons, List.not_mem_nil, or_false] at hp
    rcases hp with rfl | rfl | rfl | rfl | rfl | rfl | rfl <;> (unfold I64n; omega)
  obtain ⟨v, ps, hrun, hv⟩ := World.ownsMap.lookup hl.map iKey Tryz.underlying147 (fnZero _) (show fnR .nilFunc = some (.lit (.int .i64 (-1)), []) from rfl) (iKeyOf hp64)
  have h2 := hv.trans (congrArg (fun d => some (d, ps)) (actL_at p hp _))
  rw [hrun, fnR_inv h2]

theorem pnew15_ok (w : World) :
    Calls Tryz.prog 26 #[] w fun e w' => ∃ b, e = .returned (.pointer (some ⟨b, 0, none⟩)) ∧ (∃ S, (PN b newNd).p S w' ∧ ∀ k, S k → w.heap.size ≤ k) ∧ Below w.heap.size w w' := by
  have hmm := @run_makeMap Tryz.prog
  have HC := Lib.hid (newCT_ok w)
  go_enter Tryz.func26, Tryz.ntmps26
  go_wp2_with fail
  refine HC.out.mono ?_
  rintro e w1 ⟨rfl, hc, hb⟩
  have HB := Lib.hid hb
  have HCT := Lib.hid hc
  clear HC hb hc
  go_wp2_with fail
  go_ret
  have hz := HB.out.size
  have hcl := HCT.out.2.1 _ rfl
  have hb2 : Below w.heap.size w ((w1.alloc (.map #[] 0)).alloc (.cells #[.pointer (some ⟨w.heap.size, 0, none⟩), .int .u64 1, .bool false, .slice none 0 0, .map (some w1.heap.size)] 83)) := kp_alloc (kp_alloc HB.out _) _
  have hz1 : (w1.alloc (.map #[] 0)).heap.size = w1.heap.size + 1 := by simp
  refine ⟨w1.heap.size + 1, by rw [← hz1]; rfl, ⟨fun k => k = w.heap.size ∨ k = w1.heap.size ∨ k = w1.heap.size + 1, ⟨w.heap.size, w1.heap.size, none, 0, 0, fun _ => none, fun k => if k = w.heap.size then .cls else if k = w1.heap.size then .map else .top, ?_⟩, fun k hk => by omega⟩, hb2⟩
  have h2 := kp_new (w1.alloc (.map #[] 0)) (.cells #[.pointer (some ⟨w.heap.size, 0, none⟩), .int .u64 1, .bool false, .slice none 0 0, .map (some w1.heap.size)] 83)
  have h3 := kp_new w1 (.map #[] 0)
  refine ⟨?_, World.ownsRow_nil _ _ _ _, ?_, fun c _ => .inl ⟨rfl, rfl⟩, ?_, ⟨.inr (.inr rfl), by rw [if_neg (by omega), if_neg (by omega)]⟩, ⟨.inr (.inl rfl), by rw [if_neg (by omega), if_pos rfl]⟩, fun g hg => by simp [Value.ownBlock] at hg, fun k hk => ?_⟩
  · rw [← hz1]
    exact heap_alloc_new _ _
  · exact (MapW.made w1).keep (h2.block _ (by rw [hz1]; omega))
  · have h4 := Thing.next (X := CT w.heap.size) (Thing.next (X := CT w.heap.size) HCT.out h3) h2
    obtain ⟨_, h5, x, h6⟩ := h4
    refine ⟨⟨.inl rfl, if_pos rfl⟩, fun k hk => ?_, x, h6.imp id fun ⟨q, a1, a2, a3, a4⟩ => absurd a4 a3⟩
    have : k = w.heap.size := by
      have h7 := hk.2
      by_cases e : k = w.heap.size
      · exact e
      · simp only [if_neg e] at h7
        split at h7 <;> cases h7
    exact h5 k this
  · simp
    omega
end

/- The landed node: lay: contract. -/
section
open Go.RowKit Go.Maps Go.WideMaps
set_option maxRecDepth 100000

theorem entinfo15 : (Tryz.prog.info? 65).map (fun i => (i.zero, i.size, i.bytes)) = some (some (.agg #[.int .u64 0, .string ⟨#[]⟩]), 2, 24) := by kernel_rfl
theorem step_append_run {P : Program} {ops : Array Oper} {o : Oper} {a : Act} {w : World} {K : Act → World → Prop} {Q : Exit → Act → World → Prop} {E : Prop} (hw : Region.wanted o (yielded ops a.tmps) = true) (s x : Operand) (t : TypeId)
    (ho : o.op = .call { callee := .builtin .append, args := #[s, x], argTypes := #[t, t] }) (v y : Value) (hs : a.eval s = v) (hx : a.eval x = y) {v3 : Value} {w3 : World}
    (hrun : (Builtin.append_ #[t, t] o.type #[v, y]).run P w = .ok v3 w3) (h : K (a.put o.dst v3) w3) :
    if Region.wanted o (yielded ops a.tmps) = true then Oper.wp P o a w K Q else E := by
  rw [if_pos hw]
  unfold Oper.wp execOp
  simp only [ho, resolve, invoke, builtin, Sem.run_bind, Sem.run_pure, Result.andThen_ok, List.map_toArray, List.map_cons, List.map_nil, hs, hx, hrun]
  exact h
/-- a call leaves the node so; of what lay there the node's own block and its log alone are written -/
structure LayT (b : Nat) (n' : Nd) (cb bm : Nat) (W : Wts) (S : Nat → Prop) (col : Nat → Role) (w w' : World) : Prop where
  at_ : ∃ A m c S' col', PNx b n' cb bm A m c W col' S' w' ∧ (∀ q, S' q → S q ∨ w.heap.size ≤ q) ∧ (∀ q, S' q → q < w.heap.size → col' q = col q)
  off : Off (fun q => q = b ∨ (S q ∧ col q = .log)) w w'
section
variable {b : Nat} {n n' n'' : Nd} {cb bm : Nat} {AL : Option Addr} {nl cl : Nat} {W W' : Wts} {col col' : Nat → Role} {S : Nat → Prop} {w w' w'' : World}
theorem LayT.turn (h : LayT b n' cb bm W S col w w') (hb : S b) : Turn (PN b n') S w w' := by
  obtain ⟨⟨A, m, c, S', col', h1, h2, _⟩, h3⟩ := h
  exact ⟨⟨S', ⟨_, _, _, _, _, _, _, h1⟩, h2⟩, h3.wide fun k hk => hk.elim (fun e => e ▸ hb) (fun e => e.1)⟩
theorem LayT.here (h : PNx b n cb bm AL nl cl W col S w) : LayT b n cb bm W S col w w := ⟨⟨_, _, _, S, col, h, fun _ h => .inl h, fun _ _ _ => rfl⟩, Off.refl _ _⟩
/-- the log is stored: an append made it, of the log or of what is left of it by a cut -/
theorem PNx.stored (h : PNx b n cb bm AL nl cl W col S w) {wA w5 : World} (hA : Below w.heap.size w wA) {k m5 c5 : Nat} {A5 : Option Addr} {l5 : List Lg} (ho : w5.ownsRow 0 65 2 (.slice A5 m5 c5) m5 (lgC l5))
    (hg : wA.grownBy w5 (Value.slice AL k cl).ownBlock) (hw : (Value.slice A5 m5 c5).ownBlock = (Value.slice AL k cl).ownBlock ∨ ∃ g, (Value.slice A5 m5 c5).ownBlock = some g ∧ wA.heap.size ≤ g) :
    PNx b { n with lg := l5 } cb bm A5 m5 c5 W (colN col w.heap.size .log) (fun k => S k ∨ (w.heap.size ≤ k ∧ k < (w5.setCell ⟨b, 3, none⟩ (.slice A5 m5 c5)).heap.size)) (w5.setCell ⟨b, 3, none⟩ (.slice A5 m5 c5)) ∧
      Off (fun q => q = b ∨ (S q ∧ col q = .log)) w (w5.setCell ⟨b, 3, none⟩ (.slice A5 m5 c5)) ∧ w5.heap[b]? = w.heap[b]? := by
  have hbl : ∀ g, (Value.slice AL k cl).ownBlock = some g → (S g ∧ col g = .log) ∧ g ≠ b := fun g hg => by
    have h1 : (Value.slice AL nl cl).ownBlock = some g := by
      cases AL with
      | none => cases hg
      | some ad => exact hg
    refine ⟨h.sl g h1, fun e => ?_⟩
    have h2 := (h.sl g h1).2
    rw [e, h.sb.2] at h2
    cases h2
  have hz := hA.size
  have hz5 := hg.size
  have hb5w : w5.heap[b]? = w.heap[b]? := (hg.block b (Nat.lt_of_lt_of_le (h.lt b h.sb.1) hz) (fun e => (hbl b e.symm).2 rfl)).trans (hA.block b (h.lt b h.sb.1))
  have hb5 := hb5w.trans h.top
  have hof : Off (fun q => q = b ∨ (S q ∧ col q = .log)) w w5 := (Off.of _ hA).grownS hg fun g hg => .inl (.inr (hbl g hg).1)
  have hn5 : (Value.slice A5 m5 c5).ownBlock ≠ some b := fun e => by
    rcases hw with e2 | ⟨g, e2, hg2⟩
    · rw [e] at e2
      exact (hbl b e2.symm).2 rfl
    · rw [e] at e2
      injection e2 with e2
      have := h.lt b h.sb.1
      omega
  have ho6 := ownsRow_setCell_other (a := ⟨b, 3, none⟩) ho hn5 (.slice A5 m5 c5)
  have hoff : Off (fun q => q = b ∨ (S q ∧ col q = .log)) w (w5.setCell ⟨b, 3, none⟩ (.slice A5 m5 c5)) := Off.setCell hof (.inl (.inl rfl)) _
  refine ⟨h.relog (l' := l5) (heap_setCell_same w5 b 3 _ _ (.slice A5 m5 c5) hb5) ho6 (fun g hg2 => ?_) (fun k hk h1 h2 => hoff.block k (h.lt k hk) (fun e => e.elim h1 fun e => h2 e.2)) hoff.size, hoff, hb5w⟩
  rcases hw with e2 | ⟨g', e2, hg3⟩
  · rw [hg2] at e2
    exact .inl (hbl g e2.symm).1
  · rw [hg2] at e2
    injection e2 with e2
    exact .inr (by omega)
theorem LayT.step {S' : Nat → Prop} {A2 : Option Addr} {m2 c2 : Nat} (h2 : ∀ q, S' q → S q ∨ w.heap.size ≤ q) (h3 : ∀ q, S' q → q < w.heap.size → col' q = col q) (h4 : Off (fun q => q = b ∨ (S q ∧ col q = .log)) w w')
    (k1 : PNx b n'' cb bm A2 m2 c2 W (colN col' w'.heap.size .log) (fun k => S' k ∨ (w'.heap.size ≤ k ∧ k < w''.heap.size)) w'') (k2 : Off (fun q => q = b ∨ (S' q ∧ col' q = .log)) w' w'') : LayT b n'' cb bm W S col w w'' := by
  have hz := h4.size
  refine ⟨⟨A2, m2, c2, _, _, k1, fun q hq => ?_, fun q hq hl => ?_⟩, h4.trans k2 fun q hq => ?_⟩
  · rcases hq with hq | hq
    · exact h2 q hq
    · exact .inr (by omega)
  · rw [colN_old (Nat.lt_of_lt_of_le hl hz)]
    rcases hq with hq | hq
    · exact h3 q hq hl
    · omega
  · rcases hq with hq | ⟨hq, hc⟩
    · exact .inl (.inl hq)
    · by_cases hl : q < w.heap.size
      · rcases h2 q hq with h5 | h5
        · exact .inl (.inr ⟨h5, (h3 q hq hl).symm.trans hc⟩)
        · exact .inr h5
      · exact .inr (by omega)

set_option maxHeartbeats 4000000 in
theorem play15_ok (A1 : Option Addr) (n1 c1 : Nat) (ts : List ByteArray) (h : PNx b n cb bm AL nl cl W col S w) (hl : n.lg.length ≤ 200) (hx : XR w A1 n1 ts) (hne : ∀ ad, A1 = some ad → ad.block ≠ b ∧ ¬ (S ad.block ∧ col ad.block = .log)) (hn1 : n1 ≤ 200) :
    Calls Tryz.prog 141 #[.pointer (some ⟨b, 0, none⟩), .slice A1 n1 c1] w fun e w' => e = .returned (.int .i64 (layNd n ts).1) ∧ LayT b (layNd n ts).2 cb bm W S col w w' := by
  obtain ⟨_, _, _, c3, _⟩ := h.tops
  have hnl := h.llen
  have hlen := hx.len
  have hwr : IntKind.i64.wrap ((nl : Int) + (n1 : Int)) = (nl : Int) + n1 := by rw [IntKind.wrap_i64]; omega
  have HP := Lib.hid h
  have HXR := Lib.hid hx
  have HNE := Lib.hid hne
  clear h hx hne
  by_cases hbig : 200 < n.lg.length + ts.length
  · rw [show layNd n ts = (5, n) from if_pos hbig]
    have hb2 : (200 : Int) < (nl : Int) + n1 := by omega
    clear hbig hnl hlen
    go_enter Tryz.func141, Tryz.ntmps141
    go_wp2_with fail
    go_ret
    exact ⟨rfl, LayT.here HP.out⟩
  rw [show layNd n ts = (0, { n with lg := n.lg ++ ts.map fun t => ⟨n.ep, t⟩ }) from if_neg hbig]
  have hb2 : ¬ (200 : Int) < (nl : Int) + n1 := by omega
  have HSM : Hid (nl + n1 ≤ 200) := Lib.hid (by omega)
  have HNL := Lib.hid hnl
  have HTL := Lib.hid hlen
  obtain ⟨i0, hi, hz0, hz1, hz2⟩ := info_parts entinfo15
  have HB0 : Hid (LayT b { n with lg := n.lg ++ (ts.take 0).map fun t => ⟨n.ep, t⟩ } cb bm W S col w w) := Lib.hid (by simpa using LayT.here HP.out)
  clear hbig hnl hlen
  go_enter Tryz.func141, Tryz.ntmps141
  go_wp2_with fail
  go_loopw [18] (fun i wr => ∃ k : Nat, k ≤ n1 ∧ i = .int .i64 k ∧ Hid (LayT b { n with lg := n.lg ++ (ts.take k).map fun t => ⟨n.ep, t⟩ } cb bm W S col w wr)) (fun i _ => n1 - (intOf i).toNat)
  case atStart => exact ⟨0, Nat.zero_le _, rfl, HB0⟩
  case round =>
    obtain ⟨k, hk, rfl, hs⟩ := hrel
    clear HB0
    by_cases hlt : k < n1
    · have hkt : k < ts.length := by rw [HTL.out]; exact hlt
      obtain ⟨A2, m, c2, S', col', hp, hS', hC'⟩ := hs.out.at_
      have hmL := hp.llen
      have HMX : Hid (m = nl + k) := Lib.hid (by
        rw [← hmL, ← HNL.out]
        simp only [List.length_append, List.length_map, List.length_take]
        omega)
      have HAPP : Hid (n.lg ++ (ts.take (k + 1)).map (fun t => (⟨n.ep, t⟩ : Lg)) = (n.lg ++ (ts.take k).map fun t => ⟨n.ep, t⟩) ++ [⟨n.ep, ts[k]⟩]) := Lib.hid (by
        rw [List.take_succ_eq_append_getElem hkt, List.map_append, List.append_assoc]
        rfl)
      have hxr0 := HXR.out.offO hs.out.off fun ad e he => he.elim (HNE.out ad e).1 (HNE.out ad e).2
      obtain ⟨ad, hA, hadl, hxt⟩ := hxr0.at_ hkt
      subst hA
      obtain ⟨t, ht⟩ : ∃ x, ts[k] = x := ⟨_, rfl⟩
      rw [ht] at HAPP hxt
      obtain ⟨ls, hls⟩ : ∃ x, (n.lg ++ (ts.take k).map fun t => (⟨n.ep, t⟩ : Lg)) = x := ⟨_, rfl⟩
      rw [hls] at hp HAPP
      obtain ⟨_, y1, _, y3, _⟩ := hp.tops
      have y3' : wr.drew.cell? ⟨b, 3, none⟩ = some (.slice A2 m c2) := y3
      have y1' : wr.drew.cell? ⟨b, 1, none⟩ = some (.int .u64 n.ep) := y1
      have hmx : m ≤ 200 := by have := HMX.out; have := HSM.out; omega
      have hi0 : (0 : Int) ≤ (k : Int) := by omega
      have hi1 : (k : Int) < (n1 : Int) := by omega
      have hblt : b < wr.heap.size := hp.lt b hp.sb.1
      have hka : Below wr.heap.size wr ((wr.alloc (.cells #[.int .u64 n.ep, .string t] 65)).drew) := (kp_new wr _).drew
      have hown : ((wr.alloc (.cells #[.int .u64 n.ep, .string t] 65)).drew).ownsRow 0 65 2 (.slice A2 m c2) m (lgC ls) := own_keep hp.lg fun g hg => hka.block g (hp.lt g (hp.sl g hg).1)
      have hrd : Rd ((wr.alloc (.cells #[.int .u64 n.ep, .string t] 65)).drew) (wr.heap.size + 1) (some ⟨wr.heap.size, 0, none⟩) [.int .u64 n.ep, .string t] := Rd.new wr 65 [.int .u64 n.ep, .string t]
      obtain ⟨A5, c5, w5, hrun, hown5, hg5, hwh⟩ := run_append_many (P := Tryz.prog) 57 57 65 i0 _ 2 24 Tryz.underlying57 hi hz0 hz1 hz2 rfl (by omega) hown _ _ 1 1 [.int .u64 n.ep, .string t] rfl hrd (by simp [Value.oneCell']) (by omega) (by omega)
      rw [show lgC ls ++ [.int .u64 n.ep, .string t] = lgC (ls ++ [⟨n.ep, t⟩]) from by rw [lgC_append]; rfl] at hown5
      have hst := hp.stored hka hown5 hg5 hwh
      have hfin : LayT b { n with lg := n.lg ++ (ts.take (k + 1)).map fun t => ⟨n.ep, t⟩ } cb bm W S col w (w5.setCell ⟨b, 3, none⟩ (.slice A5 (m + 1) c5)) := LayT.step hS' hC' hs.out.off (by rw [HAPP.out]; exact hst.1) hst.2.1
      have HF := Lib.hid hfin
      have HRUN := Lib.hid hrun
      have hf5 := (cellsAt (hst.2.2.trans hp.top) 3 (v := .slice A2 m c2) rfl).2
      have hv5 := (cellsAt (hst.2.2.trans hp.top) 3 (v := .slice A2 m c2) rfl).1
      clear hs hS' hC' hmL hp ht hls hxr0 hst hfin hown hrd hown5 hg5 hwh hka hrun
      go_wp2_with fail
      go_region_law (refine step_append_run rfl (.tmp 26) (.tmp 33) _ rfl _ _ rfl rfl HRUN.out ?_)
      all_goals
        go_wp2_with fail
        go_roundw
        case rel => exact ⟨k + 1, by omega, by go_num, HF⟩
        case measure => simp [intOf]; omega
    · obtain rfl : k = n1 := by omega
      rw [List.take_of_length_le (by rw [HTL.out]; exact Nat.le_refl _)] at hs
      go_wp2_with fail
      go_ret
      exact ⟨rfl, hs.out⟩
end
end

/- The landed node: what is done of a Write, a Begin, a Commit, a Rollback, a Set: contracts. -/
section
open Go.RowKit Go.Maps Go.WideMaps
set_option maxRecDepth 100000

theorem opOf_snoc_other {c d : Int} (ts : List ByteArray) (h : d ≠ c) : ∀ l : List Op15, opOf c (l ++ [⟨d, ts⟩]) = opOf c l
  | [] => by simp [opOf, h]
  | o :: r => by
    rw [List.cons_append, opOf, opOf, opOf_snoc_other ts h r]
theorem opOf_snoc_new {c : Int} (ts : List ByteArray) : ∀ l : List Op15, opOf c l = none → opOf c (l ++ [⟨c, ts⟩]) = some ts
  | [], _ => by simp [opOf]
  | o :: r, h => by
    unfold opOf at h
    split at h
    · cases h
    · rename_i ho
      rw [List.cons_append, opOf, if_neg ho, opOf_snoc_new ts r h]
/-- what a statement that doesn't read answers: no texts, an error -/
def doV (e : Int) : Value := .tuple #[.slice none 0 0, .int .i64 e]
section
variable {b : Nat} {n : Nd} {cb bm : Nat} {AL : Option Addr} {nl cl : Nat} {W : Wts} {col : Nat → Role} {S : Nat → Prop} {w w' : World} {k : Nat}
theorem ppass15_ok (c : Int) (s : ByteArray) (h : (PN b n).p S w) :
    Calls Tryz.prog 107 #[.pointer (some ⟨b, 0, none⟩), .int .i64 c, .string s] w fun e w' => e = .returned (doV (doNd n c 6 s).1) ∧ Turn (PN b (doNd n c 6 s).2) S w w' := by
  have hd : doNd n c 6 s = (0, n) := by
    unfold doNd
    cases opOf c n.op <;> simp
  rw [hd]
  go_enter Tryz.func107, Tryz.ntmps107
  go_wp2_with fail
  go_ret2
  exact ⟨rfl, Turn.here h⟩
theorem prollback15_ok (c : Int) (hc : I64n c) (s : ByteArray) (h : (PN b n).p S w) (hi : NdI k n) :
    Calls Tryz.prog 106 #[.pointer (some ⟨b, 0, none⟩), .int .i64 c, .string s] w fun e w' => e = .returned (doV (doNd n c 5 s).1) ∧ Turn (PN b (doNd n c 5 s).2) S w w' := by
  obtain ⟨cb, bm, AL, nl, cl, W, col, hx⟩ := h
  have HC := Lib.hid (pclosex_ok c hc hi.nd hx)
  have HX := Lib.hid hx
  clear hx
  cases ho : opOf c n.op with
  | none =>
    rw [show doNd n c 5 s = (7, closeNd n c) from by unfold doNd closeNd; rw [ho, dropOp_no (opOf_none.1 ho)]; simp]
    rw [ho] at HC
    clear ho
    go_enter Tryz.func106, Tryz.ntmps106
    go_wp2_with fail
    refine HC.out.mono ?_
    rintro e w2 ⟨rfl, hp, hg⟩
    have HF := Lib.hid (HX.out.clturn hp hg)
    clear HC hp hg
    go_wp2_with fail
    go_ret2
    exact ⟨rfl, HF.out⟩
  | some ts =>
    rw [show doNd n c 5 s = (0, closeNd n c) from by unfold doNd; rw [ho]; simp]
    rw [ho] at HC
    clear ho
    go_enter Tryz.func106, Tryz.ntmps106
    go_wp2_with fail
    refine HC.out.mono ?_
    rintro e w2 ⟨rfl, hp, hg⟩
    have HF := Lib.hid (HX.out.clturn hp hg)
    clear HC hp hg
    go_wp2_with fail
    go_ret2
    exact ⟨rfl, HF.out⟩
theorem pcommit15_ok (c : Int) (hc : I64n c) (s : ByteArray) (h : (PN b n).p S w) (hi : NdI k n) :
    Calls Tryz.prog 105 #[.pointer (some ⟨b, 0, none⟩), .int .i64 c, .string s] w fun e w' => e = .returned (doV (doNd n c 4 s).1) ∧ Turn (PN b (doNd n c 4 s).2) S w w' := by
  obtain ⟨cb, bm, AL, nl, cl, W, col, hx⟩ := h
  obtain ⟨_, _, _, _, c4⟩ := hx.tops
  have hl := hx.map.look1 hc
  have HC := Lib.hid (pclosex_ok c hc hi.nd hx)
  have HX := Lib.hid hx
  have HOP := Lib.hid (hx.op c hc)
  have HI := Lib.hid hi
  clear hx
  rcases HOP.out with ⟨ho, hW⟩ | ⟨ts, A, m, d, ho, hW, htx⟩
  · rw [show doNd n c 4 s = (7, closeNd n c) from by unfold doNd closeNd; rw [ho, dropOp_no (opOf_none.1 ho)]; simp]
    rw [ho] at HC
    rw [hW] at hl
    unfold slV at hl
    clear ho hW HOP
    go_enter Tryz.func105, Tryz.ntmps105
    go_wp2_with fail
    refine HC.out.mono ?_
    rintro e w2 ⟨rfl, hp, hg⟩
    have HF := Lib.hid (HX.out.clturn hp hg)
    clear HC hp hg hl
    go_wp2_with fail
    go_ret2
    exact ⟨rfl, HF.out⟩
  · rw [show doNd n c 4 s = layNd (closeNd n c) ts from by unfold doNd; rw [ho]; simp]
    obtain ⟨o, hm, rfl, rfl⟩ := opOf_mem ho
    have HL := Lib.hid (hi.oc o hm).2.2.1
    rw [ho] at HC
    rw [hW] at hl
    unfold slV at hl
    have HTX := Lib.hid htx
    clear ho hW HOP htx hm
    go_enter Tryz.func105, Tryz.ntmps105
    go_wp2_with fail
    refine HC.out.mono ?_
    rintro e w2 ⟨rfl, hp, hg⟩
    have hfl := flat_own HTX.out.own
    have hab : ∀ ad, A = some ad → S ad.block ∧ col ad.block = .tx o.c := fun ad e => HTX.out.at_ ad.block (by rw [e]; rfl)
    have hxr : XR w2 A m o.ts := HTX.out.xr.off hg.size fun ad e => hg.block ad.block (HX.out.lt _ (hab ad e).1) (fun e2 => by
      injection e2 with e2
      have h2 := (hab ad e).2
      rw [e2, HX.out.sm.2] at h2
      cases h2)
    have hm1 : m ≤ 200 := by rw [← HTX.out.xr.len]; exact HL.out
    have HLAY := Lib.hid (play15_ok A m d o.ts hp (show n.lg.length ≤ 200 from HI.out.lg) hxr (fun ad e => ⟨fun e2 => (by
      have h2 := (hab ad e).2
      rw [e2, HX.out.sb.2] at h2
      cases h2), fun e2 => (by
      have h2 := e2.2
      rw [colN_old (HX.out.lt _ (hab ad e).1), (hab ad e).2] at h2
      cases h2)⟩) hm1)
    have HT := Lib.hid (HX.out.clturn hp hg)
    have HSB : Hid (S b ∨ (w.heap.size ≤ b ∧ b < w2.heap.size)) := Lib.hid (.inl HX.out.sb.1)
    have HP := Lib.hid hp
    clear HC hp hg hl hfl hab hxr hm1
    go_wp2_with fail
    refine HLAY.out.mono ?_
    rintro e w3 ⟨rfl, ht⟩
    have HF : Hid (Turn (PN b (layNd (closeNd n o.c) o.ts).2) S w w3) := Lib.hid (by
      have h3 := ht.turn HSB.out
      obtain ⟨⟨S', k1, k2⟩, k3⟩ := h3
      have hz := HT.out.off.size
      exact ⟨⟨S', k1, fun q hq => (k2 q hq).elim (fun e => e.imp id (·.1)) (fun e => .inr (by omega))⟩, HT.out.off.trans k3 fun q hq => hq.imp id (·.1)⟩)
    clear ht HLAY HP HSB HT
    go_wp2_with fail
    go_ret2
    exact ⟨rfl, HF.out⟩
/-- a row of texts that waits is longer by one -/
theorem PNx.waits (h : PNx b n cb bm AL nl cl W col S w) {c : Int} {ts : List ByteArray} {A : Option Addr} {m d : Nat} (ho : opOf c n.op = some ts) (hW : W c = some (A, m, d)) (htx : TxR w S col c A m d ts) (s : ByteArray) {wA w5 w6 : World} (hA : Below w.heap.size w wA) {A5 : Option Addr} {c5 : Nat}
    (h5 : w5.ownsRow 0 9 1 (.slice A5 (m + 1) c5) (m + 1) (tvs ts ++ [.string s])) (hg : wA.grownBy w5 (Value.slice A m d).ownBlock) (hw : (Value.slice A5 (m + 1) c5).ownBlock = (Value.slice A m d).ownBlock ∨ ∃ g, (Value.slice A5 (m + 1) c5).ownBlock = some g ∧ wA.heap.size ≤ g)
    (hm : MapW w6 bm (if (W c).isSome = true then n.op.length else n.op.length + 1) (updW W c (some (A5, m + 1, c5)))) (hg6 : w5.grownBy w6 (some bm)) : Turn (PN b { n with op := putOp c (ts ++ [s]) n.op }) S w w6 := by
  have hz := hA.size
  have hz5 := hg.size
  have hz6 := hg6.size
  have htb : ∀ g, (Value.slice A m d).ownBlock = some g → S g ∧ col g = .tx c := htx.at_
  have hof : Off S w w5 := (Off.of _ hA).grownS hg fun g e => .inl (htb g e).1
  have hof6 : Off S w w6 := by
    refine ⟨hg6.os.trans hof.os, hg6.tape.trans hof.tape, hg6.output.trans hof.output, Nat.le_trans hof.size hz6, fun q hq hn => ?_⟩
    exact (hg6.block q (Nat.lt_of_lt_of_le hq hof.size) (fun e => by injection e with e; exact hn (e ▸ h.sm.1))).trans (hof.block q hq hn)
  have hkeep : ∀ q, S q → q ≠ bm → col q ≠ .tx c → w6.heap[q]? = w.heap[q]? := fun q hq h1 h2 => by
    have hql := h.lt q hq
    exact (hg6.block q (by omega) (fun e => h1 (by injection e))).trans ((hg.block q (by omega) (fun e => h2 (htb q e.symm).2)).trans (hA.block q hql))
  refine PN.turn (h.remap (n' := { n with op := putOp c (ts ++ [s]) n.op }) (W' := updW W c (some (A5, m + 1, c5))) rfl c ((hkeep b h.sb.1 (fun e => h.mne e.symm) (by rw [h.sb.2]; exact fun e => nomatch e)).trans h.top) ?_ (fun q hq e => .inr ⟨(putOp_of c q (ts ++ [s]) n.op).trans (if_neg e), if_neg e⟩) (fun _ => .inr ⟨ts ++ [s], A5, m + 1, c5, ?_, if_pos rfl, ?_, fun g hg2 => ?_⟩) (fun q hq _ h1 h2 => hkeep q hq h1 h2) (by omega)) hof6
  · show MapW w6 bm (putOp c (ts ++ [s]) n.op).length _
    rw [putOp_len]
    rw [hW] at hm
    exact hm
  · show opOf c (putOp c (ts ++ [s]) n.op) = _
    rw [putOp_of, if_pos rfl, ho]
    rfl
  · rw [tvs_append]
    refine own_keep h5 fun g hg2 => hg6.block g (h5.lt g hg2).2 (fun e => ?_)
    injection e with e
    rcases hw with e2 | ⟨g', e2, hl⟩
    · rw [hg2] at e2
      have h2 := (htb g e2.symm).2
      rw [e, h.sm.2] at h2
      cases h2
    · rw [hg2] at e2
      injection e2 with e2
      have := h.lt bm h.sm.1
      omega
  · rcases hw with e2 | ⟨g', e2, hl⟩
    · rw [hg2] at e2
      exact .inl (htb g e2.symm)
    · rw [hg2] at e2
      injection e2 with e2
      exact .inr (by omega)
set_option maxHeartbeats 4000000 in
theorem pbegin15_ok (c : Int) (hc : I64n c) (s : ByteArray) (h : (PN b n).p S w) (hi : NdI k n) (hk : k ≤ 800) :
    Calls Tryz.prog 104 #[.pointer (some ⟨b, 0, none⟩), .int .i64 c, .string s] w fun e w' => e = .returned (doV (doNd n c 3 s).1) ∧ Turn (PN b (doNd n c 3 s).2) S w w' := by
  have HT := Lib.hid h
  obtain ⟨cb, bm, AL, nl, cl, W, col, hx⟩ := h
  obtain ⟨_, _, _, _, c4⟩ := hx.tops
  have hl := hx.map.look hc
  rcases hx.op c hc with ⟨ho, hW⟩ | ⟨ts, A, m, d, ho, hW, htx⟩
  · rw [show doNd n c 3 s = (0, { n with op := n.op ++ [⟨c, []⟩] }) from by unfold doNd; rw [ho]; simp]
    rw [hW] at hl
    obtain ⟨w2, hput, hm2, hg2⟩ := hx.map.put (by have := hi.ol; omega) hc (A := none) (fun _ e => nomatch e) 0 0
    rw [hW] at hm2
    have hne := hx.mne
    have hfin : Turn (PN b { n with op := n.op ++ [⟨c, []⟩] }) S w w2 := hx.clturn (hx.remap (n' := { n with op := n.op ++ [⟨c, []⟩] }) (W' := updW W c (some (none, 0, 0))) rfl c ((hg2.block b (hx.lt b hx.sb.1) (fun e => hne (by injection e with e; exact e.symm))).trans hx.top) (by simpa using hm2) (fun q _ e => .inr ⟨opOf_snoc_other [] (Ne.symm e) n.op, if_neg e⟩)
      (fun _ => .inr ⟨[], none, 0, 0, opOf_snoc_new [] n.op ho, if_pos rfl, World.ownsRow_nil _ _ _ _, fun g hg => by simp [Value.ownBlock] at hg⟩) (fun q hq _ h2 _ => hg2.block q (hx.lt q hq) (fun e => h2 (by injection e))) hg2.size) hg2
    have HF := Lib.hid hfin
    simp only [slV, Option.isSome_none] at hl
    clear hx hm2 hg2 hne hfin ho hW
    go_enter Tryz.func104, Tryz.ntmps104
    go_wp2_with fail
    go_ret2
    exact ⟨rfl, HF.out⟩
  · rw [show doNd n c 3 s = (7, n) from by unfold doNd; rw [ho]; simp]
    rw [hW] at hl
    simp only [slV, Option.isSome_some] at hl
    clear hx ho hW htx
    go_enter Tryz.func104, Tryz.ntmps104
    go_wp2_with fail
    go_ret2
    exact ⟨rfl, Turn.here HT.out⟩
end
end

/- The landed node: behind, Table, read: contracts. -/
section
open Go.RowKit Go.Maps Go.WideMaps
set_option maxRecDepth 100000

section
variable {b : Nat} {n : Nd} {S : Nat → Prop} {w w' : World} {k : Nat}
set_option maxHeartbeats 2000000 in
theorem pbehind_ok (A : Option Addr) (m c : Nat) (tb : List Kv) (s : ByteArray) (w : World) (hL : Lw w) (hk : KR w A m tb) (hc : m ≤ c) (hs : Srt tb) (hm : m ≤ 400) (hsm : Sm s) :
    Calls Tryz.prog 37 #[.slice A m c, .string s] w fun e w' => ∃ A' m' c', e = .returned (.slice A' m' c') ∧ m' ≤ c' ∧ KR w' A' m' (wrT tb s) ∧ Below w.heap.size w w' := by
  have HOF := Lib.hid (of_ok s w (by unfold Sm at hsm; unfold maxLen; omega) hL)
  unfold OfTo at HOF
  have HK := Lib.hid hk
  have HS := Lib.hid hs
  clear hk hs
  go_enter Tryz.func37, Tryz.ntmps37
  go_wp2_with fail
  refine HOF.out.mono ?_
  rintro e w2 ⟨d, kk, vv, rfl, hdo, k2⟩
  have HWR := Lib.hid (writes_ok d kk vv A m c tb w2 (HK.out.next k2) hc HS.out (by omega))
  unfold WrTo at HWR
  have HTB : Hid (wrT tb s = (writesF d kk vv tb).1) := Lib.hid (wrT_of hdo tb)
  have HB := Lib.hid k2
  unfold planV
  clear HOF hdo k2
  go_wp2_with fail
  refine HWR.out.mono ?_
  rintro e w3 ⟨A3, n3, c3, rfl, hk3, k3⟩
  have HF := Lib.hid (And.intro hk3 k3)
  clear HWR hk3 k3
  go_wp2_with fail
  go_ret
  exact ⟨A3, n3, c3, rfl, HF.out.1.cap, by rw [HTB.out]; exact HF.out.1.kr, HB.out.trans (HF.out.2.mono HB.out.size)⟩
set_option maxHeartbeats 8000000 in
theorem ptable15_ok (h : (PN b n).p S w) (hL : Lw w) (hi : NdI k n) :
    Calls Tryz.prog 16 #[.pointer (some ⟨b, 0, none⟩)] w fun e w' => ∃ A m c, e = .returned (.slice A m c) ∧ m ≤ c ∧ KR w' A m (tabN n.lg []) ∧ Below w.heap.size w w' := by
  obtain ⟨cb, bm, AL, nl, cl, W, col, hx⟩ := h
  obtain ⟨_, _, _, y2, _⟩ := hx.tops
  have HLR := Lib.hid hx.lr
  have HNL := Lib.hid hx.llen
  have HSL := Lib.hid hi.lt
  have hnl : nl ≤ 200 := by rw [← HNL.out]; exact hi.lg
  have HLW := Lib.hid hL
  have HK0 : Hid (KR w none 0 (((n.lg.take 0).map Lg.t).foldl wrT [])) := Lib.hid ⟨rfl, .inl rfl⟩
  have HB0 := Lib.hid (Below.refl w.heap.size w)
  clear hx hL hi
  go_enter Tryz.func16, Tryz.ntmps16
  go_wp2_with fail
  go_loopw [3, 11] (fun l i wr => ∃ (q m c : Nat) (A : Option Addr), q ≤ nl ∧ m ≤ c ∧ i = .int .i64 q ∧ l = .slice A m c ∧ Hid (KR wr A m (((n.lg.take q).map Lg.t).foldl wrT [])) ∧ Hid (Below w.heap.size w wr)) (fun _ i _ => nl - (intOf i).toNat)
  case atStart => exact ⟨0, 0, 0, none, Nat.zero_le _, Nat.le_refl _, rfl, rfl, HK0, HB0⟩
  case round =>
    obtain ⟨q, m, c, A, hq, hmc, rfl, rfl, hkr, hw⟩ := hrel
    clear HK0 HB0
    by_cases hlt : q < nl
    · have hql : q < n.lg.length := by rw [HNL.out]; exact hlt
      obtain ⟨ad, rfl, hadl, hcc⟩ := HLR.out.at_ hql
      obtain ⟨x0, x1⟩ := hcc wr hw.out
      have hsm := (HSL.out n.lg[q] (List.getElem_mem hql)).1
      have HNX : Hid (((n.lg.take (q + 1)).map Lg.t).foldl wrT [] = wrT (((n.lg.take q).map Lg.t).foldl wrT []) n.lg[q].t) := Lib.hid (by
        rw [List.take_succ_eq_append_getElem hql, List.map_append, List.foldl_append]
        rfl)
      have HSR : Hid (Srt (((n.lg.take q).map Lg.t).foldl wrT [])) := Lib.hid (folds_srt _ List.Pairwise.nil)
      have hml : m ≤ 200 := by
        have h1 := hkr.out.len
        have h2 := folds_len ((n.lg.take q).map Lg.t) []
        simp only [List.length_map, List.length_take, List.length_nil] at h2
        omega
      generalize n.lg[q].t = s at *
      generalize n.lg[q].e = x at *
      obtain ⟨tb, htb⟩ : ∃ x, ((n.lg.take q).map Lg.t).foldl wrT [] = x := ⟨_, rfl⟩
      rw [htb] at HNX HSR hkr
      have kA := kp_new wr (.cells #[.int .u64 x, .string s] 65)
      have HBH := Lib.hid (pbehind_ok A m c tb s _ ((HLW.out.next hw.out).next kA) (hkr.out.next kA) hmc HSR.out (by omega) hsm)
      have HWA := Lib.hid (hw.out.trans (kA.mono hw.out.size))
      have hi0 : (0 : Int) ≤ (q : Int) := by omega
      have hi1 : (q : Int) < (nl : Int) := by omega
      clear htb hcc kA hkr
      go_wp2_with fail
      refine HBH.out.mono ?_
      rintro e w2 ⟨A3, n3, c3, rfl, h3, hk3, k3⟩
      have HK3 : Hid (KR w2 A3 n3 (((n.lg.take (q + 1)).map Lg.t).foldl wrT [])) := Lib.hid (by rw [HNX.out]; exact hk3)
      have HW3 := Lib.hid (HWA.out.trans (k3.mono HWA.out.size))
      clear HBH hk3 k3 HWA hw
      go_wp2_with fail
      go_roundw
      case rel => exact ⟨q + 1, n3, c3, A3, by omega, h3, by go_num, rfl, HK3, HW3⟩
      case measure => simp [intOf]; omega
    · obtain rfl : q = nl := by omega
      rw [List.take_of_length_le (by rw [HNL.out]; exact Nat.le_refl _)] at hkr
      go_wp2_with fail
      go_ret
      exact ⟨A, m, c, rfl, hmc, hkr.out, hw.out⟩
theorem XR.cellAt {A : Option Addr} {n : Nat} {ss : List ByteArray} (h : XR w A n ss) (hb : Below w.heap.size w w') {j : Nat} (hj : j < ss.length) : ∃ ad, A = some ad ∧ w'.cell? (ad.add j) = some (.string ss[j]) := by
  obtain ⟨ad, h1, _, h2⟩ := (h.next hb).at_ hj
  exact ⟨ad, h1, h2⟩
set_option maxHeartbeats 8000000 in
theorem pread15_ok (c : Int) (hc : I64n c) (s : ByteArray) (hs : Sm s) (h : (PN b n).p S w) (hL : Lw w) (hi : NdI k n) :
    Calls Tryz.prog 102 #[.pointer (some ⟨b, 0, none⟩), .int .i64 c, .string s] w fun e w' => ∃ A m d, e = .returned (.tuple #[.slice A m d, .int .i64 0]) ∧ XR w' A m (rdT s (tabN n.lg (waitsNd n c))) ∧ (∀ ad, A = some ad → w.heap.size ≤ ad.block ∧ ad.block < w'.heap.size) ∧ Below w.heap.size w w' := by
  have HT := Lib.hid (ptable15_ok h hL hi)
  obtain ⟨cb, bm, AL, nl, cl, W, col, hx⟩ := h
  have hcs : ∃ A m d, (Option.map (fun t : List ByteArray => t) (opOf c n.op)).getD [] = waitsNd n c ∧ slV (W c) = .slice A m d ∧ XR w A m (waitsNd n c) ∧ m ≤ 200 ∧ ∀ s ∈ waitsNd n c, Sm s := by
    unfold waitsNd
    rcases hx.op c hc with ⟨ho, hW⟩ | ⟨ts, A, m, d, ho, hW, htx⟩
    · rw [ho, hW]
      exact ⟨none, 0, 0, rfl, rfl, XR.nil w, by omega, fun _ h => nomatch h⟩
    · rw [ho, hW]
      obtain ⟨o, hm, rfl, rfl⟩ := opOf_mem ho
      obtain ⟨_, _, h3, h4⟩ := hi.oc o hm
      exact ⟨A, m, d, rfl, rfl, htx.xr, by rw [← htx.xr.len]; exact h3, h4⟩
  obtain ⟨A1, n1, c1, _, hv, hxr, hn1, hws⟩ := hcs
  have HX := Lib.hid hx
  have HXR := Lib.hid hxr
  have HTL := Lib.hid hxr.len
  have HSW := Lib.hid hws
  have HLW := Lib.hid hL
  have HL0 : Hid ((tabN n.lg []).length ≤ 200) := Lib.hid (by
    have h1 := tabN_len n.lg []
    have h2 := hi.lg
    simp only [List.length_nil] at h1
    omega)
  have HTN : Hid (∀ ws, tabN n.lg ws = ws.foldl wrT (tabN n.lg [])) := Lib.hid fun _ => rfl
  have HST : Hid (Srt (tabN n.lg [])) := Lib.hid (tabN_srt _ _)
  have HV := Lib.hid hv
  clear hx hxr hws hL hi hv
  generalize waitsNd n c = ws at *
  obtain ⟨t0, ht0⟩ : ∃ x, tabN n.lg [] = x := ⟨_, rfl⟩
  rw [ht0] at HL0 HST
  have HTN2 : Hid (tabN n.lg ws = ws.foldl wrT t0) := Lib.hid (by rw [HTN.out, ht0])
  rw [ht0] at HT
  clear HTN ht0
  go_enter Tryz.func102, Tryz.ntmps102
  go_wp2_with fail
  refine HT.out.mono ?_
  rintro e w1 ⟨A, m, d, rfl, hmd, hk1, k1⟩
  have hx1 := HX.out.keep (fun q hq => k1.block q (HX.out.lt q hq)) k1.size
  obtain ⟨_, _, _, _, y4⟩ := hx1.tops
  have hlk := hx1.map.look1 hc
  rw [HV.out] at hlk
  have HK1 := Lib.hid k1
  have HB1 : Hid (KR w1 A m ((ws.take 0).foldl wrT t0)) := Lib.hid hk1
  clear HT hx1 hk1 k1
  go_wp2_with fail
  go_loopw [8, 20] (fun l i wr => ∃ (q m c : Nat) (A : Option Addr), q ≤ n1 ∧ m ≤ c ∧ i = .int .i64 q ∧ l = .slice A m c ∧ Hid (KR wr A m ((ws.take q).foldl wrT t0)) ∧ Hid (Below w.heap.size w wr)) (fun _ i _ => n1 - (intOf i).toNat)
  case atStart => exact ⟨0, m, d, A, Nat.zero_le _, hmd, rfl, rfl, HB1, HK1⟩
  case round =>
    obtain ⟨q, m, c, A, hq, hmc, rfl, rfl, hkr, hw⟩ := hrel
    clear HB1 HK1
    by_cases hlt : q < n1
    · have hqt : q < ws.length := by rw [HTL.out]; exact hlt
      obtain ⟨ad, rfl, x1⟩ := HXR.out.cellAt hw.out hqt
      have hsm := HSW.out ws[q] (List.getElem_mem hqt)
      have HNX : Hid ((ws.take (q + 1)).foldl wrT t0 = wrT ((ws.take q).foldl wrT t0) ws[q]) := Lib.hid (by
        rw [List.take_succ_eq_append_getElem hqt, List.foldl_append]
        rfl)
      have HSR : Hid (Srt ((ws.take q).foldl wrT t0)) := Lib.hid (folds_srt _ HST.out)
      have hml : m ≤ 400 := by
        have h1 := hkr.out.len
        have h2 := folds_len (ws.take q) t0
        simp only [List.length_take] at h2
        have := HL0.out
        omega
      generalize ws[q] = t at *
      obtain ⟨tb, htb⟩ : ∃ x, (ws.take q).foldl wrT t0 = x := ⟨_, rfl⟩
      rw [htb] at HNX HSR hkr
      have HBH := Lib.hid (pbehind_ok A m c tb t wr (HLW.out.next hw.out) hkr.out hmc HSR.out hml hsm)
      have hi0 : (0 : Int) ≤ (q : Int) := by omega
      have hi1 : (q : Int) < (n1 : Int) := by omega
      clear htb hkr
      go_wp2_with fail
      refine HBH.out.mono ?_
      rintro e w2 ⟨A3, n3, c3, rfl, h3, hk3, k3⟩
      have HK3 : Hid (KR w2 A3 n3 ((ws.take (q + 1)).foldl wrT t0)) := Lib.hid (by rw [HNX.out]; exact hk3)
      have HW3 := Lib.hid (hw.out.trans (k3.mono hw.out.size))
      clear HBH hk3 k3 hw
      go_wp2_with fail
      go_roundw
      case rel => exact ⟨q + 1, n3, c3, A3, by omega, h3, by go_num, rfl, HK3, HW3⟩
      case measure => simp [intOf]; omega
    · obtain rfl : q = n1 := by omega
      rw [List.take_of_length_le (by rw [HTL.out]; exact Nat.le_refl _)] at hkr
      have HSR : Hid (Srt (ws.foldl wrT t0)) := Lib.hid (folds_srt _ HST.out)
      have hml : m ≤ 400 := by
        have h1 := hkr.out.len
        have h2 := folds_len ws t0
        have := HL0.out
        have := HTL.out
        omega
      have HOF := Lib.hid (of_ok s wr (by unfold Sm at hs; unfold maxLen; omega) (HLW.out.next hw.out))
      unfold OfTo at HOF
      go_wp2_with fail
      refine HOF.out.mono ?_
      rintro e w2 ⟨d, kk, vv, rfl, hdo, k2⟩
      have HRD := Lib.hid (reads_new d kk vv A m c _ w2 (hkr.out.next k2) hmc HSR.out (by omega))
      have HTB : Hid (rdT s (ws.foldl wrT t0) = readsF d kk (ws.foldl wrT t0)) := Lib.hid (rdT_of hdo _)
      have HW2 := Lib.hid (hw.out.trans (k2.mono hw.out.size))
      unfold planV
      clear HOF hdo k2 hw hkr
      go_wp2_with fail
      refine HRD.out.mono ?_
      rintro e w3 ⟨A4, n4, c4, rfl, h4, h5, k4⟩
      have HF := Lib.hid (And.intro h4 (And.intro h5 k4))
      clear HRD h4 h5 k4
      go_wp2_with fail
      go_ret2
      have hz := HW2.out.size
      exact ⟨A4, n4, c4, rfl, by rw [HTN2.out, HTB.out]; exact HF.out.1, fun ad e => ⟨by have := (HF.out.2.1 ad e).1; omega, (HF.out.2.1 ad e).2⟩, HW2.out.trans (HF.out.2.2.mono hz)⟩
end
end

/- The landed node: what is done of a Write or an Unknown: contract. -/
section
open Go.RowKit Go.Maps Go.WideMaps
set_option maxRecDepth 100000

theorem strinfo15 : (Tryz.prog.info? 9).map (fun i => (i.zero, i.size, i.bytes)) = some (some (.string ⟨#[]⟩), 1, 16) := by kernel_rfl
section
variable {b : Nat} {n : Nd} {S : Nat → Prop} {w w' : World} {k : Nat}
set_option maxHeartbeats 8000000 in
theorem pwrite15_ok (is c : Int) (his : is = 2 ∨ is = 7) (hc : I64n c) (s : ByteArray) (h : (PN b n).p S w) (hi : NdI k n) (hk : k ≤ 800) :
    Calls Tryz.prog 103 #[.pointer (some ⟨b, 0, none⟩), .int .i64 c, .string s] w fun e w' => e = .returned (doV (doNd n c is s).1) ∧ Turn (PN b (doNd n c is s).2) S w w' := by
  have HT := Lib.hid h
  obtain ⟨cb, bm, AL, nl, cl, W, col, hx⟩ := h
  obtain ⟨_, _, _, _, c4⟩ := hx.tops
  have hl := hx.map.look hc
  have HX := Lib.hid hx
  rcases hx.op c hc with ⟨ho, hW⟩ | ⟨ts, A, m, d, ho, hW, htx⟩
  · rw [show doNd n c is s = layNd n [s] from by unfold doNd; rw [ho]; rcases his with rfl | rfl <;> simp]
    rw [hW] at hl
    simp only [slV, Option.isSome_none] at hl
    have kA := kp_new w (.cells #[.string s] 9)
    have hx2 := hx.keep (fun q hq => kA.block q (hx.lt q hq)) kA.size
    have hxr : XR (w.alloc (.cells #[.string s] 9)) (some ⟨w.heap.size, 0, none⟩) 1 [s] := ⟨rfl, by
      have := Rd.new w 9 [.string s]
      rw [show w.heap.size + 1 = (w.alloc (.cells #[.string s] 9)).heap.size from by simp] at this
      exact this⟩
    have HLAY := Lib.hid (play15_ok (some ⟨w.heap.size, 0, none⟩) 1 1 [s] hx2 hi.lg hxr (fun ad e => by
      injection e with e
      subst e
      refine ⟨fun e => ?_, fun e => ?_⟩
      · have := hx.lt b hx.sb.1
        simp only at e
        omega
      · have := hx.lt _ e.1
        simp only at this
        omega) (by omega))
    have HSB := Lib.hid hx.sb.1
    have HKA := Lib.hid kA
    clear hx hx2 hxr kA ho hW
    go_enter Tryz.func103, Tryz.ntmps103
    go_wp2_with fail
    refine HLAY.out.mono ?_
    rintro e w3 ⟨rfl, ht⟩
    have HF := Lib.hid ((ht.turn HSB.out).ahead HKA.out)
    clear ht HLAY HX HT
    go_wp2_with fail
    go_ret2
    exact ⟨rfl, HF.out⟩
  obtain ⟨o, hm, rfl, rfl⟩ := opOf_mem ho
  have hol := (hi.oc o hm).2.2.1
  have hlen := htx.xr.len
  rw [hW] at hl
  simp only [slV, Option.isSome_some] at hl
  by_cases hf : 200 ≤ o.ts.length
  · rw [show doNd n o.c is s = (5, n) from by unfold doNd; rw [ho]; rcases his with rfl | rfl <;> simp [hf]]
    obtain rfl : m = 200 := by omega
    clear hx ho hW htx hm hf hol hlen
    go_enter Tryz.func103, Tryz.ntmps103
    go_wp2_with fail
    go_ret2
    exact ⟨rfl, Turn.here HT.out⟩
  rw [show doNd n o.c is s = (0, { n with op := putOp o.c (o.ts ++ [s]) n.op }) from by unfold doNd; rw [ho]; rcases his with rfl | rfl <;> simp [hf]]
  obtain ⟨i0, hi0, hz0, hz1, hz2⟩ := info_parts strinfo15
  have hm2 : ((m : Int) == 200) = false := by simp; omega
  have kA : Below w.heap.size w ((w.alloc (.cells #[.string s] 9)).drew) := (kp_new w _).drew
  have hown : ((w.alloc (.cells #[.string s] 9)).drew).ownsRow 0 9 1 (.slice A m d) m (tvs o.ts) := own_keep htx.own fun g hg => kA.block g (hx.lt g (htx.at_ g hg).1)
  have hc0 : ((w.alloc (.cells #[.string s] 9)).drew).cell? ⟨w.heap.size, 0, none⟩ = some (.string s) := by
    show (w.alloc (.cells #[.string s] 9)).cell? ⟨w.heap.size, 0, none⟩ = some (.string s)
    rw [cell_of_row _ _ 0 _ _ (0, 0) (heap_alloc_new w _)]
    rfl
  obtain ⟨A5, c5, w5, hrun, hown5, hg5, hwh⟩ := run_append_one (P := Tryz.prog) 34 34 9 i0 _ 16 Tryz.underlying34 hi0 hz0 hz1 hz2 rfl hown ⟨w.heap.size, 0, none⟩ 1 (.string s) hc0 rfl (by omega) (by omega)
  have hbm : bm ≠ b := hx.mne
  have hw5 : ∀ q, q < w.heap.size → (Value.slice A m d).ownBlock ≠ some q → w5.heap[q]? = w.heap[q]? := fun q hq hn => (hg5.block q (Nat.lt_of_lt_of_le hq kA.size) (fun e => hn e.symm)).trans (kA.block q hq)
  have hrole : ∀ q, col q ≠ .tx o.c → (Value.slice A m d).ownBlock ≠ some q := fun q h1 e => h1 (htx.at_ q e).2
  have hm5 : MapW w5 bm n.op.length W := hx.map.keep (hw5 bm (hx.lt bm hx.sm.1) (hrole bm (by rw [hx.sm.2]; exact fun e => nomatch e)))
  obtain ⟨w6, hput, hm6, hg6⟩ := hm5.put (by have := hi.ol; omega) hc (flat_own hown5) (m + 1) c5
  have HF := Lib.hid (hx.waits ho hW htx s kA hown5 hg5 hwh hm6 hg6)
  have HRUN := Lib.hid hrun
  have hblt := hx.lt b hx.sb.1
  have hv5 : w5.cell? ⟨b, 4, none⟩ = some (.map (some bm)) := (cellsAt ((hw5 b hblt (hrole b (by rw [hx.sb.2]; exact fun e => nomatch e))).trans hx.top) 4 rfl).1
  clear hx ho hW htx hm hf hol hlen hown hc0 hown5 hg5 hwh hbm hw5 hrole hm5 hm6 hg6 kA HX hrun
  go_enter Tryz.func103, Tryz.ntmps103
  go_wp2_with fail
  go_region_law (refine step_append_run rfl (.tmp 28) (.tmp 30) _ rfl _ _ rfl rfl HRUN.out ?_)
  all_goals
    go_wp2_with fail
    go_ret2
    exact ⟨rfl, HF.out⟩
end
end
end Go.Proofs.YtaoegiohnebnhaaGreatDoor
