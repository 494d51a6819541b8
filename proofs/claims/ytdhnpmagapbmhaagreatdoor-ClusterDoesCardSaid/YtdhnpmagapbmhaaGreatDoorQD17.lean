/-
  Contracts and plain functions that the law stands on, part 17 of 24.
-/
import Derived.Test.YtdhnpmagapbmhaaGreatDoorQD16
import Derived.Lib.SliceRun
namespace Go.Proofs.YtdhnpmagapbmhaaGreatDoor
/- The landed node: what is done of each class (a map of functions), New: contracts. -/
section
open Go.RowKit Go.Maps Go.WideMaps
set_option maxRecDepth 100000
def fnR : Value → Option (DataW Unit × List MemPlace)
 | .nilFunc => some (.lit (.int .i64 (-1)), [])
 | .func (.func f) a c => if a.size = 0 ∧ c.size = 0 then some (.lit (.int .i64 (f : Nat)), []) else none
 | _ => none
theorem fnR_inv {v : Value} {f : Nat} {ps : List MemPlace} (h : fnR v = some (.lit (.int .i64 (f : Nat)), ps)) : v = .func (.func f) #[] #[] := by
 unfold fnR at h; split at h
 · simp only [Option.some.injEq, Prod.mk.injEq, DataW.lit.injEq, Lit.int.injEq, true_and] at h; omega
 · split at h
   · rename_i hs
     simp only [Option.some.injEq, Prod.mk.injEq, DataW.lit.injEq, Lit.int.injEq, true_and] at h; obtain ⟨h1, _⟩ := h; rw [Int.ofNat.inj h1, Array.eq_empty_of_size_eq_zero hs.1, Array.eq_empty_of_size_eq_zero hs.2]
   · cases h
 · cases h
theorem fnZero (w : World) : (zeroValue 176).run Tryz.prog w = .ok .nilFunc w := by kernel_rfl
def datF (L : List (Int × Nat)) : DataW Unit := L.foldl (fun D p => D.put (.int .i64 p.1) (.lit (.int .i64 p.2))) (.map [])
theorem datF_push (L : List (Int × Nat)) (x : Int) (c : Nat) : datF (L ++ [(x, c)]) = (datF L).put (.int .i64 x) (.lit (.int .i64 c)) := by simp [datF, List.foldl_append]
structure LaidF (w0 : World) (b : Nat) (L : List (Int × Nat)) (w : World) : Prop where
 map : w.ownsMap Tryz.prog 3 fnR b L.length (datF L)
 low : Below w0.heap.size w0 w
 new : w0.heap.size ≤ b
theorem wpList_insertF {w0 : World} {b : Nat} {L : List (Int × Nat)} {w : World} (hl : LaidF w0 b L w) (hn : L.length < 1000) {ops : Array Oper} {rest : List Oper} {o : Oper} {a : Act} {Q : Exit → Act → World → Prop}
 (hg : o.guard = none) (m x v : Operand) (hop : o.op = Op.insert 177 m x v) (k : Int) (f : Nat) (hm : a.eval m = .map (some b)) (hx : a.eval x = .int .i64 k) (hv : a.eval v = .func (.func f) #[] #[]) (hk : I64n k)
 (hK : ∀ w', LaidF w0 b (L ++ [(k, f)]) w' → wpList Tryz.prog ops Q rest (a.put o.dst undef) w') :
 wpList Tryz.prog ops Q (o :: rest) a w := by
 refine wpList_plain hg fun K' hK' => ?_; obtain ⟨w', hrun, r1, r2⟩ := World.ownsMap.update hl.map iKey Tryz.underlying177 (by unfold maxLen; omega) (iKeyOf hk) (show fnR (.func (.func f) #[] #[]) = some (.lit (.int .i64 (f : Nat)), []) from rfl); unfold Oper.wp; simp [execOp, hop, hm, hx, hv, hrun, Result.andThen]; refine hK' _ _ (hK w' ⟨?_, ?_, hl.new⟩)
 · rw [datF_push, List.length_append]; exact r1
 · exact hl.low.grown r2 hl.low.size (fun k hk => by cases hk; exact hl.new)
def actL : List (Int × Nat) := [(1, 126), (2, 127), (3, 128), (4, 129), (5, 130), (6, 131), (7, 127)]
theorem actL_at : ∀ p ∈ actL, ∀ z, (datF actL).atKey (.int .i64 p.1) z = .lit (.int .i64 (p.2 : Nat)) := by
 intro p hp z; simp only [actL, List.mem_cons, List.not_mem_nil, or_false] at hp; rcases hp with rfl | rfl | rfl | rfl | rfl | rfl | rfl <;> rfl
theorem acts_ok (w : World) : Calls Tryz.prog 108 #[] w fun e w' => ∃ bm, e = .returned (.map (some bm)) ∧ (∀ p ∈ actL, (Instr.lookup 177 (.map (some bm)) (.int .i64 p.1) false).run Tryz.prog w' = .ok (.func (.func p.2) #[] #[]) w') ∧ Below w.heap.size w w' := by
 have hmm := @run_makeMap Tryz.prog; have hl : LaidF w w.heap.size [] (w.alloc (.map #[] 0)) := ⟨World.ownsMap_made _ _ _ _, kp_new _ _, Nat.le_refl _⟩; go_enter Tryz.func108, Tryz.ntmps108; go_wp2_with (refine wpList_insertF hl (by simp) rfl _ _ _ rfl _ _ rfl rfl rfl (by unfold I64n; omega) ?_; clear hl; intro w1 hl); go_ret; refine ⟨_, rfl, fun p hp => ?_, hl.low⟩
 have hp64 : I64n p.1 := by
  simp only [actL, List.mem_cons, List.not_mem_nil, or_false] at hp; rcases hp with rfl | rfl | rfl | rfl | rfl | rfl | rfl <;> (unfold I64n; omega)
 obtain ⟨v, ps, hrun, hv⟩ := World.ownsMap.lookup hl.map iKey Tryz.underlying177 (fnZero _) (show fnR .nilFunc = some (.lit (.int .i64 (-1)), []) from rfl) (iKeyOf hp64); have h2 := hv.trans (congrArg (fun d => some (d, ps)) (actL_at p hp _)); rw [hrun, fnR_inv h2]
theorem pnew15_ok (w : World) :
 Calls Tryz.prog 32 #[] w fun e w' => ∃ b, e = .returned (.pointer (some ⟨b, 0, none⟩)) ∧ (∃ S, (PN b newNd).p S w' ∧ ∀ k, S k → w.heap.size ≤ k) ∧ Below w.heap.size w w' := by
 have hmm := @run_makeMap Tryz.prog; have HC := hid (newCT_ok w); go_enter Tryz.func32, Tryz.ntmps32; go_wp2_with fail; refine HC.out.mono ?_; rintro e w1 ⟨rfl, hc, hb⟩; have HB := hid hb; have HCT := hid hc; clear HC hb hc; go_wp2_with fail; go_ret; have hz := HB.out.size; have hcl := HCT.out.2.1 _ rfl; have hb2 : Below w.heap.size w ((w1.alloc (.map #[] 0)).alloc (.cells #[.pointer (some ⟨w.heap.size, 0, none⟩), .int .u64 1, .bool false, .slice none 0 0, .map (some w1.heap.size)] 133)) := kp_alloc (kp_alloc HB.out _) _; have hz1 : (w1.alloc (.map #[] 0)).heap.size = w1.heap.size + 1 := by simp
 refine ⟨w1.heap.size + 1, by rw [← hz1]; rfl, ⟨fun k => k = w.heap.size ∨ k = w1.heap.size ∨ k = w1.heap.size + 1, ⟨w.heap.size, w1.heap.size, none, 0, 0, fun _ => none, fun k => if k = w.heap.size then .cls else if k = w1.heap.size then .map else .top, ?_⟩, fun k hk => by omega⟩, hb2⟩; have h2 := kp_new (w1.alloc (.map #[] 0)) (.cells #[.pointer (some ⟨w.heap.size, 0, none⟩), .int .u64 1, .bool false, .slice none 0 0, .map (some w1.heap.size)] 133); have h3 := kp_new w1 (.map #[] 0); refine ⟨?_, World.ownsRow_nil _ _ _ _, ?_, fun c _ => .inl ⟨rfl, rfl⟩, ?_, ⟨.inr (.inr rfl), by rw [if_neg (by omega), if_neg (by omega)]⟩, ⟨.inr (.inl rfl), by rw [if_neg (by omega), if_pos rfl]⟩, fun g hg => by simp [Value.ownBlock] at hg, fun k hk => ?_⟩
 · rw [← hz1]; exact heap_alloc_new _ _
 · exact (MapW.made w1).keep (h2.block _ (by rw [hz1]; omega))
 · have h4 := Thing.next (X := CT w.heap.size) (Thing.next (X := CT w.heap.size) HCT.out h3) h2; obtain ⟨_, h5, x, h6⟩ := h4; refine ⟨⟨.inl rfl, if_pos rfl⟩, fun k hk => ?_, x, h6.imp id fun ⟨q, a1, a2, a3, a4⟩ => absurd a4 a3⟩
   have : k = w.heap.size := by
    have h7 := hk.2; by_cases e : k = w.heap.size
    · exact e
    · simp only [if_neg e] at h7; split at h7 <;> cases h7
   exact h5 k this
 · simp; omega
end

/- The landed node: lay: contract. -/
section
open Go.RowKit Go.Maps Go.WideMaps
set_option maxRecDepth 100000
theorem entinfo15 : (Tryz.prog.info? 69).map (fun i => (i.zero, i.size, i.bytes)) = some (some (.agg #[.int .u64 0, .string ⟨#[]⟩]), 2, 24) := by kernel_rfl
theorem step_append_run {P : Program} {ops : Array Oper} {o : Oper} {a : Act} {w : World} {K : Act → World → Prop} {Q : Exit → Act → World → Prop} {E : Prop} (hw : Region.wanted o (yielded ops a.tmps) = true) (s x : Operand) (t : TypeId)
 (ho : o.op = .call { callee := .builtin .append, args := #[s, x], argTypes := #[t, t] }) (v y : Value) (hs : a.eval s = v) (hx : a.eval x = y) {v3 : Value} {w3 : World}
 (hrun : (Builtin.append_ #[t, t] o.type #[v, y]).run P w = .ok v3 w3) (h : K (a.put o.dst v3) w3) :
 if Region.wanted o (yielded ops a.tmps) = true then Oper.wp P o a w K Q else E := by
 rw [if_pos hw]; unfold Oper.wp execOp; simp only [ho, resolve, invoke, builtin, Sem.run_bind, Sem.run_pure, Result.andThen_ok, List.map_toArray, List.map_cons, List.map_nil, hs, hx, hrun]; exact h
structure LayT (b : Nat) (n' : Nd) (cb bm : Nat) (W : Wts) (S : Nat → Prop) (col : Nat → Role) (w w' : World) : Prop where
 at_ : ∃ A m c S' col', PNx b n' cb bm A m c W col' S' w' ∧ (∀ q, S' q → S q ∨ w.heap.size ≤ q) ∧ (∀ q, S' q → q < w.heap.size → col' q = col q)
 off : Off (fun q => q = b ∨ (S q ∧ col q = .log)) w w'
section
variable {b : Nat} {n n' n'' : Nd} {cb bm : Nat} {AL : Option Addr} {nl cl : Nat} {W W' : Wts} {col col' : Nat → Role} {S : Nat → Prop} {w w' w'' : World}
theorem LayT.turn (h : LayT b n' cb bm W S col w w') (hb : S b) : Turn (PN b n') S w w' := by
 obtain ⟨⟨A, m, c, S', col', h1, h2, _⟩, h3⟩ := h; exact ⟨⟨S', ⟨_, _, _, _, _, _, _, h1⟩, h2⟩, h3.wide fun k hk => hk.elim (fun e => e ▸ hb) (fun e => e.1)⟩
theorem LayT.here (h : PNx b n cb bm AL nl cl W col S w) : LayT b n cb bm W S col w w := ⟨⟨_, _, _, S, col, h, fun _ h => .inl h, fun _ _ _ => rfl⟩, Off.refl _ _⟩
theorem PNx.stored (h : PNx b n cb bm AL nl cl W col S w) {wA w5 : World} (hA : Below w.heap.size w wA) {k m5 c5 : Nat} {A5 : Option Addr} {l5 : List Lg} (ho : w5.ownsRow 0 69 2 (.slice A5 m5 c5) m5 (lgC l5))
 (hg : wA.grownBy w5 (Value.slice AL k cl).ownBlock) (hw : (Value.slice A5 m5 c5).ownBlock = (Value.slice AL k cl).ownBlock ∨ ∃ g, (Value.slice A5 m5 c5).ownBlock = some g ∧ wA.heap.size ≤ g) :
 PNx b { n with lg := l5 } cb bm A5 m5 c5 W (colN col w.heap.size .log) (fun k => S k ∨ (w.heap.size ≤ k ∧ k < (w5.setCell ⟨b, 3, none⟩ (.slice A5 m5 c5)).heap.size)) (w5.setCell ⟨b, 3, none⟩ (.slice A5 m5 c5)) ∧
  Off (fun q => q = b ∨ (S q ∧ col q = .log)) w (w5.setCell ⟨b, 3, none⟩ (.slice A5 m5 c5)) ∧ w5.heap[b]? = w.heap[b]? := by
 have hbl : ∀ g, (Value.slice AL k cl).ownBlock = some g → (S g ∧ col g = .log) ∧ g ≠ b := fun g hg => by
  have h1 : (Value.slice AL nl cl).ownBlock = some g := by
   cases AL with
   | none => cases hg
   | some ad => exact hg
  refine ⟨h.sl g h1, fun e => ?_⟩; have h2 := (h.sl g h1).2; rw [e, h.sb.2] at h2; cases h2
 have hz := hA.size; have hz5 := hg.size; have hb5w : w5.heap[b]? = w.heap[b]? := (hg.block b (Nat.lt_of_lt_of_le (h.lt b h.sb.1) hz) (fun e => (hbl b e.symm).2 rfl)).trans (hA.block b (h.lt b h.sb.1)); have hb5 := hb5w.trans h.top; have hof : Off (fun q => q = b ∨ (S q ∧ col q = .log)) w w5 := (Off.of _ hA).grownS hg fun g hg => .inl (.inr (hbl g hg).1)
 have hn5 : (Value.slice A5 m5 c5).ownBlock ≠ some b := fun e => by
  rcases hw with e2 | ⟨g, e2, hg2⟩
  · rw [e] at e2; exact (hbl b e2.symm).2 rfl
  · rw [e] at e2; injection e2 with e2; have := h.lt b h.sb.1; omega
 have ho6 := ownsRow_setCell_other (a := ⟨b, 3, none⟩) ho hn5 (.slice A5 m5 c5); have hoff : Off (fun q => q = b ∨ (S q ∧ col q = .log)) w (w5.setCell ⟨b, 3, none⟩ (.slice A5 m5 c5)) := Off.setCell hof (.inl (.inl rfl)) _; refine ⟨h.relog (l' := l5) (heap_setCell_same w5 b 3 _ _ (.slice A5 m5 c5) hb5) ho6 (fun g hg2 => ?_) (fun k hk h1 h2 => hoff.block k (h.lt k hk) (fun e => e.elim h1 fun e => h2 e.2)) hoff.size, hoff, hb5w⟩; rcases hw with e2 | ⟨g', e2, hg3⟩
 · rw [hg2] at e2; exact .inl (hbl g e2.symm).1
 · rw [hg2] at e2; injection e2 with e2; exact .inr (by omega)
theorem LayT.step {S' : Nat → Prop} {A2 : Option Addr} {m2 c2 : Nat} (h2 : ∀ q, S' q → S q ∨ w.heap.size ≤ q) (h3 : ∀ q, S' q → q < w.heap.size → col' q = col q) (h4 : Off (fun q => q = b ∨ (S q ∧ col q = .log)) w w')
 (k1 : PNx b n'' cb bm A2 m2 c2 W (colN col' w'.heap.size .log) (fun k => S' k ∨ (w'.heap.size ≤ k ∧ k < w''.heap.size)) w'') (k2 : Off (fun q => q = b ∨ (S' q ∧ col' q = .log)) w' w'') : LayT b n'' cb bm W S col w w'' := by
 have hz := h4.size; refine ⟨⟨A2, m2, c2, _, _, k1, fun q hq => ?_, fun q hq hl => ?_⟩, h4.trans k2 fun q hq => ?_⟩
 · rcases hq with hq | hq
   · exact h2 q hq
   · exact .inr (by omega)
 · rw [colN_old (Nat.lt_of_lt_of_le hl hz)]; rcases hq with hq | hq
   · exact h3 q hq hl
   · omega
 · rcases hq with hq | ⟨hq, hc⟩
   · exact .inl (.inl hq)
   · by_cases hl : q < w.heap.size
     · rcases h2 q hq with h5 | h5
       · exact .inl (.inr ⟨h5, (h3 q hq hl).symm.trans hc⟩)
       · exact .inr h5
     · exact .inr (by omega)
set_option maxHeartbeats 4000000 in
theorem play15_ok (A1 : Option Addr) (n1 c1 : Nat) (ts : List ByteArray) (h : PNx b n cb bm AL nl cl W col S w) (hl : n.lg.length ≤ 200) (hx : XR w A1 n1 ts) (hne : ∀ ad, A1 = some ad → ad.block ≠ b ∧ ¬ (S ad.block ∧ col ad.block = .log)) (hn1 : n1 ≤ 200) :
 Calls Tryz.prog 158 #[.pointer (some ⟨b, 0, none⟩), .slice A1 n1 c1] w fun e w' => e = .returned (.int .i64 (layNd n ts).1) ∧ LayT b (layNd n ts).2 cb bm W S col w w' := by
 obtain ⟨_, _, _, c3, _⟩ := h.tops; have hnl := h.llen; have hlen := hx.len; have hwr : IntKind.i64.wrap ((nl : Int) + (n1 : Int)) = (nl : Int) + n1 := by rw [IntKind.wrap_i64]; omega
 have HP := hid h; have HXR := hid hx; have HNE := hid hne; clear h hx hne; by_cases hbig : 200 < n.lg.length + ts.length
 · rw [show layNd n ts = (5, n) from if_pos hbig]; have hb2 : (200 : Int) < (nl : Int) + n1 := by omega
   clear hbig hnl hlen; go_enter Tryz.func158, Tryz.ntmps158; go_wp2_with fail; go_ret; exact ⟨rfl, LayT.here HP.out⟩
 rw [show layNd n ts = (0, { n with lg := n.lg ++ ts.map fun t => ⟨n.ep, t⟩ }) from if_neg hbig]; have hb2 : ¬ (200 : Int) < (nl : Int) + n1 := by omega
 have HSM : Hid (nl + n1 ≤ 200) := hid (by omega); have HNL := hid hnl; have HTL := hid hlen; obtain ⟨i0, hi, hz0, hz1, hz2⟩ := info_parts entinfo15; have HB0 : Hid (LayT b { n with lg := n.lg ++ (ts.take 0).map fun t => ⟨n.ep, t⟩ } cb bm W S col w w) := hid (by simpa using LayT.here HP.out); clear hbig hnl hlen; go_enter Tryz.func158, Tryz.ntmps158; go_wp2_with fail
 go_loopw [18] (fun i wr => ∃ k : Nat, k ≤ n1 ∧ i = .int .i64 k ∧ Hid (LayT b { n with lg := n.lg ++ (ts.take k).map fun t => ⟨n.ep, t⟩ } cb bm W S col w wr)) (fun i _ => n1 - (intOf i).toNat)
 case atStart => exact ⟨0, Nat.zero_le _, rfl, HB0⟩
 case round =>
  obtain ⟨k, hk, rfl, hs⟩ := hrel; clear HB0; by_cases hlt : k < n1
  · have hkt : k < ts.length := by rw [HTL.out]; exact hlt
    obtain ⟨A2, m, c2, S', col', hp, hS', hC'⟩ := hs.out.at_; have hmL := hp.llen
    have HMX : Hid (m = nl + k) := hid (by
     rw [← hmL, ← HNL.out]; simp only [List.length_append, List.length_map, List.length_take]
     omega)
    have HAPP : Hid (n.lg ++ (ts.take (k + 1)).map (fun t => (⟨n.ep, t⟩ : Lg)) = (n.lg ++ (ts.take k).map fun t => ⟨n.ep, t⟩) ++ [⟨n.ep, ts[k]⟩]) := hid (by
     rw [List.take_succ_eq_append_getElem hkt, List.map_append, List.append_assoc]
     rfl)
    have hxr0 := HXR.out.offO hs.out.off fun ad e he => he.elim (HNE.out ad e).1 (HNE.out ad e).2; obtain ⟨ad, hA, hadl, hxt⟩ := hxr0.at_ hkt; subst hA; obtain ⟨t, ht⟩ : ∃ x, ts[k] = x := ⟨_, rfl⟩; rw [ht] at HAPP hxt; obtain ⟨ls, hls⟩ : ∃ x, (n.lg ++ (ts.take k).map fun t => (⟨n.ep, t⟩ : Lg)) = x := ⟨_, rfl⟩; rw [hls] at hp HAPP; obtain ⟨_, y1, _, y3, _⟩ := hp.tops; have y3' : wr.drew.cell? ⟨b, 3, none⟩ = some (.slice A2 m c2) := y3; have y1' : wr.drew.cell? ⟨b, 1, none⟩ = some (.int .u64 n.ep) := y1; have hmx : m ≤ 200 := by have := HMX.out; have := HSM.out; omega
    have hi0 : (0 : Int) ≤ (k : Int) := by omega
    have hi1 : (k : Int) < (n1 : Int) := by omega
    have hblt : b < wr.heap.size := hp.lt b hp.sb.1; have hka : Below wr.heap.size wr ((wr.alloc (.cells #[.int .u64 n.ep, .string t] 69)).drew) := (kp_new wr _).drew; have hown : ((wr.alloc (.cells #[.int .u64 n.ep, .string t] 69)).drew).ownsRow 0 69 2 (.slice A2 m c2) m (lgC ls) := own_keep hp.lg fun g hg => hka.block g (hp.lt g (hp.sl g hg).1); have hrd : Rd ((wr.alloc (.cells #[.int .u64 n.ep, .string t] 69)).drew) (wr.heap.size + 1) (some ⟨wr.heap.size, 0, none⟩) [.int .u64 n.ep, .string t] := Rd.new wr 69 [.int .u64 n.ep, .string t]; obtain ⟨A5, c5, w5, hrun, hown5, hg5, hwh⟩ := run_append_many (P := Tryz.prog) 60 60 69 i0 _ 2 24 Tryz.underlying60 hi hz0 hz1 hz2 rfl (by omega) hown _ _ 1 1 [.int .u64 n.ep, .string t] rfl hrd (by simp [Value.oneCell']) (by omega) (by omega); rw [show lgC ls ++ [.int .u64 n.ep, .string t] = lgC (ls ++ [⟨n.ep, t⟩]) from by rw [lgC_append]; rfl] at hown5; have hst := hp.stored hka hown5 hg5 hwh; have hfin : LayT b { n with lg := n.lg ++ (ts.take (k + 1)).map fun t => ⟨n.ep, t⟩ } cb bm W S col w (w5.setCell ⟨b, 3, none⟩ (.slice A5 (m + 1) c5)) := LayT.step hS' hC' hs.out.off (by rw [HAPP.out]; exact hst.1) hst.2.1; have HF := hid hfin; have HRUN := hid hrun; have hf5 := (cellsAt (hst.2.2.trans hp.top) 3 (v := .slice A2 m c2) rfl).2; have hv5 := (cellsAt (hst.2.2.trans hp.top) 3 (v := .slice A2 m c2) rfl).1; clear hs hS' hC' hmL hp ht hls hxr0 hst hfin hown hrd hown5 hg5 hwh hka hrun; go_wp2_with fail; go_region_law (refine step_append_run rfl (.tmp 26) (.tmp 33) _ rfl _ _ rfl rfl HRUN.out ?_)
    all_goals
     go_wp2_with fail; go_roundw
     case rel => exact ⟨k + 1, by omega, by go_num, HF⟩
     case measure => simp [intOf]; omega
  · obtain rfl : k = n1 := by omega
    rw [List.take_of_length_le (by rw [HTL.out]; exact Nat.le_refl _)] at hs; go_wp2_with fail; go_ret; exact ⟨rfl, hs.out⟩
end
end

/- The landed node: what is done of a Write, a Begin, a Commit, a Rollback, a Set: contracts. -/
section
open Go.RowKit Go.Maps Go.WideMaps
set_option maxRecDepth 100000
theorem opOf_snoc_other {c d : Int} (ts : List ByteArray) (h : d ≠ c) : ∀ l : List Op15, opOf c (l ++ [⟨d, ts⟩]) = opOf c l
 | [] => by simp [opOf, h]
 | o :: r => by
   rw [List.cons_append, opOf, opOf, opOf_snoc_other ts h r]
theorem opOf_snoc_new {c : Int} (ts : List ByteArray) : ∀ l : List Op15, opOf c l = none → opOf c (l ++ [⟨c, ts⟩]) = some ts
 | [], _ => by simp [opOf]
 | o :: r, h => by
   unfold opOf at h; split at h
   · cases h
   · rename_i ho
     rw [List.cons_append, opOf, if_neg ho, opOf_snoc_new ts r h]
def doV (e : Int) : Value := .tuple #[.slice none 0 0, .int .i64 e]
section
variable {b : Nat} {n : Nd} {cb bm : Nat} {AL : Option Addr} {nl cl : Nat} {W : Wts} {col : Nat → Role} {S : Nat → Prop} {w w' : World} {k : Nat}
theorem ppass15_ok (c : Int) (s : ByteArray) (h : (PN b n).p S w) :
 Calls Tryz.prog 131 #[.pointer (some ⟨b, 0, none⟩), .int .i64 c, .string s] w fun e w' => e = .returned (doV (doNd n c 6 s).1) ∧ Turn (PN b (doNd n c 6 s).2) S w w' := by
 have hd : doNd n c 6 s = (0, n) := by
  unfold doNd; cases opOf c n.op <;> simp
 rw [hd]; go_enter Tryz.func131, Tryz.ntmps131; go_wp2_with fail; go_ret2; exact ⟨rfl, Turn.here h⟩
theorem prollback15_ok (c : Int) (hc : I64n c) (s : ByteArray) (h : (PN b n).p S w) (hi : NdI k n) :
 Calls Tryz.prog 130 #[.pointer (some ⟨b, 0, none⟩), .int .i64 c, .string s] w fun e w' => e = .returned (doV (doNd n c 5 s).1) ∧ Turn (PN b (doNd n c 5 s).2) S w w' := by
 obtain ⟨cb, bm, AL, nl, cl, W, col, hx⟩ := h; have HC := hid (pclosex_ok c hc hi.nd hx); have HX := hid hx; clear hx
 cases ho : opOf c n.op with
 | none =>
   rw [show doNd n c 5 s = (7, closeNd n c) from by unfold doNd closeNd; rw [ho, dropOp_no (opOf_none.1 ho)]; simp]; rw [ho] at HC; clear ho; go_enter Tryz.func130, Tryz.ntmps130; go_wp2_with fail; refine HC.out.mono ?_; rintro e w2 ⟨rfl, hp, hg⟩; have HF := hid (HX.out.clturn hp hg); clear HC hp hg; go_wp2_with fail; go_ret2; exact ⟨rfl, HF.out⟩
 | some ts =>
   rw [show doNd n c 5 s = (0, closeNd n c) from by unfold doNd; rw [ho]; simp]; rw [ho] at HC; clear ho; go_enter Tryz.func130, Tryz.ntmps130; go_wp2_with fail; refine HC.out.mono ?_; rintro e w2 ⟨rfl, hp, hg⟩; have HF := hid (HX.out.clturn hp hg); clear HC hp hg; go_wp2_with fail; go_ret2; exact ⟨rfl, HF.out⟩
theorem pcommit15_ok (c : Int) (hc : I64n c) (s : ByteArray) (h : (PN b n).p S w) (hi : NdI k n) :
 Calls Tryz.prog 129 #[.pointer (some ⟨b, 0, none⟩), .int .i64 c, .string s] w fun e w' => e = .returned (doV (doNd n c 4 s).1) ∧ Turn (PN b (doNd n c 4 s).2) S w w' := by
 obtain ⟨cb, bm, AL, nl, cl, W, col, hx⟩ := h; obtain ⟨_, _, _, _, c4⟩ := hx.tops; have hl := hx.map.look1 hc; have HC := hid (pclosex_ok c hc hi.nd hx); have HX := hid hx; have HOP := hid (hx.op c hc); have HI := hid hi; clear hx; rcases HOP.out with ⟨ho, hW⟩ | ⟨ts, A, m, d, ho, hW, htx⟩
 · rw [show doNd n c 4 s = (7, closeNd n c) from by unfold doNd closeNd; rw [ho, dropOp_no (opOf_none.1 ho)]; simp]; rw [ho] at HC; rw [hW] at hl; unfold slV at hl; clear ho hW HOP; go_enter Tryz.func129, Tryz.ntmps129; go_wp2_with fail; refine HC.out.mono ?_; rintro e w2 ⟨rfl, hp, hg⟩; have HF := hid (HX.out.clturn hp hg); clear HC hp hg hl; go_wp2_with fail; go_ret2; exact ⟨rfl, HF.out⟩
 · rw [show doNd n c 4 s = layNd (closeNd n c) ts from by unfold doNd; rw [ho]; simp]; obtain ⟨o, hm, rfl, rfl⟩ := opOf_mem ho; have HL := hid (hi.oc o hm).2.2.1; rw [ho] at HC; rw [hW] at hl; unfold slV at hl; have HTX := hid htx; clear ho hW HOP htx hm; go_enter Tryz.func129, Tryz.ntmps129; go_wp2_with fail; refine HC.out.mono ?_; rintro e w2 ⟨rfl, hp, hg⟩; have hfl := flat_own HTX.out.own; have hab : ∀ ad, A = some ad → S ad.block ∧ col ad.block = .tx o.c := fun ad e => HTX.out.at_ ad.block (by rw [e]; rfl)
   have hxr : XR w2 A m o.ts := HTX.out.xr.off hg.size fun ad e => hg.block ad.block (HX.out.lt _ (hab ad e).1) (fun e2 => by
    injection e2 with e2; have h2 := (hab ad e).2; rw [e2, HX.out.sm.2] at h2
    cases h2)
   have hm1 : m ≤ 200 := by rw [← HTX.out.xr.len]; exact HL.out
   have HLAY := hid (play15_ok A m d o.ts hp (show n.lg.length ≤ 200 from HI.out.lg) hxr (fun ad e => ⟨fun e2 => (by
    have h2 := (hab ad e).2; rw [e2, HX.out.sb.2] at h2
    cases h2), fun e2 => (by
    have h2 := e2.2; rw [colN_old (HX.out.lt _ (hab ad e).1), (hab ad e).2] at h2
    cases h2)⟩) hm1)
   have HT := hid (HX.out.clturn hp hg); have HSB : Hid (S b ∨ (w.heap.size ≤ b ∧ b < w2.heap.size)) := hid (.inl HX.out.sb.1); have HP := hid hp; clear HC hp hg hl hfl hab hxr hm1; go_wp2_with fail; refine HLAY.out.mono ?_; rintro e w3 ⟨rfl, ht⟩
   have HF : Hid (Turn (PN b (layNd (closeNd n o.c) o.ts).2) S w w3) := hid (by
    have h3 := ht.turn HSB.out; obtain ⟨⟨S', k1, k2⟩, k3⟩ := h3; have hz := HT.out.off.size
    exact ⟨⟨S', k1, fun q hq => (k2 q hq).elim (fun e => e.imp id (·.1)) (fun e => .inr (by omega))⟩, HT.out.off.trans k3 fun q hq => hq.imp id (·.1)⟩)
   clear ht HLAY HP HSB HT; go_wp2_with fail; go_ret2; exact ⟨rfl, HF.out⟩
theorem PNx.waits (h : PNx b n cb bm AL nl cl W col S w) {c : Int} {ts : List ByteArray} {A : Option Addr} {m d : Nat} (ho : opOf c n.op = some ts) (hW : W c = some (A, m, d)) (htx : TxR w S col c A m d ts) (s : ByteArray) {wA w5 w6 : World} (hA : Below w.heap.size w wA) {A5 : Option Addr} {c5 : Nat}
 (h5 : w5.ownsRow 0 9 1 (.slice A5 (m + 1) c5) (m + 1) (tvs ts ++ [.string s])) (hg : wA.grownBy w5 (Value.slice A m d).ownBlock) (hw : (Value.slice A5 (m + 1) c5).ownBlock = (Value.slice A m d).ownBlock ∨ ∃ g, (Value.slice A5 (m + 1) c5).ownBlock = some g ∧ wA.heap.size ≤ g)
 (hm : MapW w6 bm (if (W c).isSome = true then n.op.length else n.op.length + 1) (updW W c (some (A5, m + 1, c5)))) (hg6 : w5.grownBy w6 (some bm)) : Turn (PN b { n with op := putOp c (ts ++ [s]) n.op }) S w w6 := by
 have hz := hA.size; have hz5 := hg.size; have hz6 := hg6.size; have htb : ∀ g, (Value.slice A m d).ownBlock = some g → S g ∧ col g = .tx c := htx.at_; have hof : Off S w w5 := (Off.of _ hA).grownS hg fun g e => .inl (htb g e).1
 have hof6 : Off S w w6 := by
  refine ⟨hg6.os.trans hof.os, hg6.tape.trans hof.tape, hg6.output.trans hof.output, Nat.le_trans hof.size hz6, fun q hq hn => ?_⟩; exact (hg6.block q (Nat.lt_of_lt_of_le hq hof.size) (fun e => by injection e with e; exact hn (e ▸ h.sm.1))).trans (hof.block q hq hn)
 have hkeep : ∀ q, S q → q ≠ bm → col q ≠ .tx c → w6.heap[q]? = w.heap[q]? := fun q hq h1 h2 => by
  have hql := h.lt q hq; exact (hg6.block q (by omega) (fun e => h1 (by injection e))).trans ((hg.block q (by omega) (fun e => h2 (htb q e.symm).2)).trans (hA.block q hql))
 refine PN.turn (h.remap (n' := { n with op := putOp c (ts ++ [s]) n.op }) (W' := updW W c (some (A5, m + 1, c5))) rfl c ((hkeep b h.sb.1 (fun e => h.mne e.symm) (by rw [h.sb.2]; exact fun e => nomatch e)).trans h.top) ?_ (fun q hq e => .inr ⟨(putOp_of c q (ts ++ [s]) n.op).trans (if_neg e), if_neg e⟩) (fun _ => .inr ⟨ts ++ [s], A5, m + 1, c5, ?_, if_pos rfl, ?_, fun g hg2 => ?_⟩) (fun q hq _ h1 h2 => hkeep q hq h1 h2) (by omega)) hof6
 · show MapW w6 bm (putOp c (ts ++ [s]) n.op).length _; rw [putOp_len]; rw [hW] at hm; exact hm
 · show opOf c (putOp c (ts ++ [s]) n.op) = _; rw [putOp_of, if_pos rfl, ho]; rfl
 · rw [tvs_append]; refine own_keep h5 fun g hg2 => hg6.block g (h5.lt g hg2).2 (fun e => ?_); injection e with e; rcases hw with e2 | ⟨g', e2, hl⟩
   · rw [hg2] at e2; have h2 := (htb g e2.symm).2; rw [e, h.sm.2] at h2; cases h2
   · rw [hg2] at e2; injection e2 with e2; have := h.lt bm h.sm.1; omega
 · rcases hw with e2 | ⟨g', e2, hl⟩
   · rw [hg2] at e2; exact .inl (htb g e2.symm)
   · rw [hg2] at e2; injection e2 with e2; exact .inr (by omega)
set_option maxHeartbeats 4000000 in
theorem pbegin15_ok (c : Int) (hc : I64n c) (s : ByteArray) (h : (PN b n).p S w) (hi : NdI k n) (hk : k ≤ 800) :
 Calls Tryz.prog 128 #[.pointer (some ⟨b, 0, none⟩), .int .i64 c, .string s] w fun e w' => e = .returned (doV (doNd n c 3 s).1) ∧ Turn (PN b (doNd n c 3 s).2) S w w' := by
 have HT := hid h; obtain ⟨cb, bm, AL, nl, cl, W, col, hx⟩ := h; obtain ⟨_, _, _, _, c4⟩ := hx.tops; have hl := hx.map.look hc; rcases hx.op c hc with ⟨ho, hW⟩ | ⟨ts, A, m, d, ho, hW, htx⟩
 · rw [show doNd n c 3 s = (0, { n with op := n.op ++ [⟨c, []⟩] }) from by unfold doNd; rw [ho]; simp]; rw [hW] at hl; obtain ⟨w2, hput, hm2, hg2⟩ := hx.map.put (by have := hi.ol; omega) hc (A := none) (fun _ e => nomatch e) 0 0; rw [hW] at hm2; have hne := hx.mne
   have hfin : Turn (PN b { n with op := n.op ++ [⟨c, []⟩] }) S w w2 := hx.clturn (hx.remap (n' := { n with op := n.op ++ [⟨c, []⟩] }) (W' := updW W c (some (none, 0, 0))) rfl c ((hg2.block b (hx.lt b hx.sb.1) (fun e => hne (by injection e with e; exact e.symm))).trans hx.top) (by simpa using hm2) (fun q _ e => .inr ⟨opOf_snoc_other [] (Ne.symm e) n.op, if_neg e⟩)
    (fun _ => .inr ⟨[], none, 0, 0, opOf_snoc_new [] n.op ho, if_pos rfl, World.ownsRow_nil _ _ _ _, fun g hg => by simp [Value.ownBlock] at hg⟩) (fun q hq _ h2 _ => hg2.block q (hx.lt q hq) (fun e => h2 (by injection e))) hg2.size) hg2
   have HF := hid hfin; simp only [slV, Option.isSome_none] at hl; clear hx hm2 hg2 hne hfin ho hW; go_enter Tryz.func128, Tryz.ntmps128; go_wp2_with fail; go_ret2; exact ⟨rfl, HF.out⟩
 · rw [show doNd n c 3 s = (7, n) from by unfold doNd; rw [ho]; simp]; rw [hW] at hl; simp only [slV, Option.isSome_some] at hl; clear hx ho hW htx; go_enter Tryz.func128, Tryz.ntmps128; go_wp2_with fail; go_ret2; exact ⟨rfl, Turn.here HT.out⟩
end
end

/- The landed node: behind, Table, read: contracts. -/
section
open Go.RowKit Go.Maps Go.WideMaps
set_option maxRecDepth 100000
section
variable {b : Nat} {n : Nd} {S : Nat → Prop} {w w' : World} {k : Nat}
set_option maxHeartbeats 2000000 in
theorem pbehind_ok (A : Option Addr) (m c : Nat) (tb : List Kv) (s : ByteArray) (w : World) (hL : Lw w) (hk : KR w A m tb) (hc : m ≤ c) (hs : Srt tb) (hm : m ≤ 400) (hsm : Sm s) :
 Calls Tryz.prog 155 #[.slice A m c, .string s] w fun e w' => ∃ A' m' c', e = .returned (.slice A' m' c') ∧ m' ≤ c' ∧ KR w' A' m' (wrT tb s) ∧ Below w.heap.size w w' := by
 have HOF := hid (of_ok s w (by unfold Sm at hsm; unfold maxLen; omega) hL); unfold OfTo at HOF; have HK := hid hk; have HS := hid hs; clear hk hs; go_enter Tryz.func155, Tryz.ntmps155; go_wp2_with fail; refine HOF.out.mono ?_; rintro e w2 ⟨d, kk, vv, rfl, hdo, k2⟩; have HWR := hid (writes_ok d kk vv A m c tb w2 (HK.out.next k2) hc HS.out (by omega)); unfold WrTo at HWR; have HTB : Hid (wrT tb s = (writesF d kk vv tb).1) := hid (wrT_of hdo tb); have HB := hid k2; unfold planV; clear HOF hdo k2; go_wp2_with fail; refine HWR.out.mono ?_; rintro e w3 ⟨A3, n3, c3, rfl, hk3, k3⟩; have HF := hid (And.intro hk3 k3); clear HWR hk3 k3; go_wp2_with fail; go_ret; exact ⟨A3, n3, c3, rfl, HF.out.1.cap, by rw [HTB.out]; exact HF.out.1.kr, HB.out.trans (HF.out.2.mono HB.out.size)⟩
set_option maxHeartbeats 8000000 in
theorem ptable15_ok (h : (PN b n).p S w) (hL : Lw w) (hi : NdI k n) :
 Calls Tryz.prog 154 #[.pointer (some ⟨b, 0, none⟩)] w fun e w' => ∃ A m c, e = .returned (.slice A m c) ∧ m ≤ c ∧ KR w' A m (tabN n.lg []) ∧ Below w.heap.size w w' := by
 obtain ⟨cb, bm, AL, nl, cl, W, col, hx⟩ := h; obtain ⟨_, _, _, y2, _⟩ := hx.tops; have HLR := hid hx.lr; have HNL := hid hx.llen; have HSL := hid hi.lt; have hnl : nl ≤ 200 := by rw [← HNL.out]; exact hi.lg
 have HLW := hid hL; have HK0 : Hid (KR w none 0 (((n.lg.take 0).map Lg.t).foldl wrT [])) := hid ⟨rfl, .inl rfl⟩; have HB0 := hid (Below.refl w.heap.size w); clear hx hL hi; go_enter Tryz.func154, Tryz.ntmps154; go_wp2_with fail
 go_loopw [3, 11] (fun l i wr => ∃ (q m c : Nat) (A : Option Addr), q ≤ nl ∧ m ≤ c ∧ i = .int .i64 q ∧ l = .slice A m c ∧ Hid (KR wr A m (((n.lg.take q).map Lg.t).foldl wrT [])) ∧ Hid (Below w.heap.size w wr)) (fun _ i _ => nl - (intOf i).toNat)
 case atStart => exact ⟨0, 0, 0, none, Nat.zero_le _, Nat.le_refl _, rfl, rfl, HK0, HB0⟩
 case round =>
  obtain ⟨q, m, c, A, hq, hmc, rfl, rfl, hkr, hw⟩ := hrel; clear HK0 HB0; by_cases hlt : q < nl
  · have hql : q < n.lg.length := by rw [HNL.out]; exact hlt
    obtain ⟨ad, rfl, hadl, hcc⟩ := HLR.out.at_ hql; obtain ⟨x0, x1⟩ := hcc wr hw.out; have hsm := (HSL.out n.lg[q] (List.getElem_mem hql)).1
    have HNX : Hid (((n.lg.take (q + 1)).map Lg.t).foldl wrT [] = wrT (((n.lg.take q).map Lg.t).foldl wrT []) n.lg[q].t) := hid (by
     rw [List.take_succ_eq_append_getElem hql, List.map_append, List.foldl_append]
     rfl)
    have HSR : Hid (Srt (((n.lg.take q).map Lg.t).foldl wrT [])) := hid (folds_srt _ List.Pairwise.nil)
    have hml : m ≤ 200 := by
     have h1 := hkr.out.len; have h2 := folds_len ((n.lg.take q).map Lg.t) []; simp only [List.length_map, List.length_take, List.length_nil] at h2; omega
    generalize n.lg[q].t = s at *; generalize n.lg[q].e = x at *; obtain ⟨tb, htb⟩ : ∃ x, ((n.lg.take q).map Lg.t).foldl wrT [] = x := ⟨_, rfl⟩; rw [htb] at HNX HSR hkr; have kA := kp_new wr (.cells #[.int .u64 x, .string s] 69); have HBH := hid (pbehind_ok A m c tb s _ ((HLW.out.next hw.out).next kA) (hkr.out.next kA) hmc HSR.out (by omega) hsm); have HWA := hid (hw.out.trans (kA.mono hw.out.size)); have hi0 : (0 : Int) ≤ (q : Int) := by omega
    have hi1 : (q : Int) < (nl : Int) := by omega
    clear htb hcc kA hkr; go_wp2_with fail; refine HBH.out.mono ?_; rintro e w2 ⟨A3, n3, c3, rfl, h3, hk3, k3⟩; have HK3 : Hid (KR w2 A3 n3 (((n.lg.take (q + 1)).map Lg.t).foldl wrT [])) := hid (by rw [HNX.out]; exact hk3); have HW3 := hid (HWA.out.trans (k3.mono HWA.out.size)); clear HBH hk3 k3 HWA hw; go_wp2_with fail; go_roundw
    case rel => exact ⟨q + 1, n3, c3, A3, by omega, h3, by go_num, rfl, HK3, HW3⟩
    case measure => simp [intOf]; omega
  · obtain rfl : q = nl := by omega
    rw [List.take_of_length_le (by rw [HNL.out]; exact Nat.le_refl _)] at hkr; go_wp2_with fail; go_ret; exact ⟨A, m, c, rfl, hmc, hkr.out, hw.out⟩
theorem XR.cellAt {A : Option Addr} {n : Nat} {ss : List ByteArray} (h : XR w A n ss) (hb : Below w.heap.size w w') {j : Nat} (hj : j < ss.length) : ∃ ad, A = some ad ∧ w'.cell? (ad.add j) = some (.string ss[j]) := by
 obtain ⟨ad, h1, _, h2⟩ := (h.next hb).at_ hj; exact ⟨ad, h1, h2⟩
set_option maxHeartbeats 8000000 in
theorem pread15_ok (c : Int) (hc : I64n c) (s : ByteArray) (hs : Sm s) (h : (PN b n).p S w) (hL : Lw w) (hi : NdI k n) :
 Calls Tryz.prog 126 #[.pointer (some ⟨b, 0, none⟩), .int .i64 c, .string s] w fun e w' => ∃ A m d, e = .returned (.tuple #[.slice A m d, .int .i64 0]) ∧ XR w' A m (rdT s (tabN n.lg (waitsNd n c))) ∧ (∀ ad, A = some ad → w.heap.size ≤ ad.block ∧ ad.block < w'.heap.size) ∧ Below w.heap.size w w' := by
 have HT := hid (ptable15_ok h hL hi); obtain ⟨cb, bm, AL, nl, cl, W, col, hx⟩ := h
 have hcs : ∃ A m d, (Option.map (fun t : List ByteArray => t) (opOf c n.op)).getD [] = waitsNd n c ∧ slV (W c) = .slice A m d ∧ XR w A m (waitsNd n c) ∧ m ≤ 200 ∧ ∀ s ∈ waitsNd n c, Sm s := by
  unfold waitsNd; rcases hx.op c hc with ⟨ho, hW⟩ | ⟨ts, A, m, d, ho, hW, htx⟩
  · rw [ho, hW]; exact ⟨none, 0, 0, rfl, rfl, XR.nil w, by omega, fun _ h => nomatch h⟩
  · rw [ho, hW]; obtain ⟨o, hm, rfl, rfl⟩ := opOf_mem ho; obtain ⟨_, _, h3, h4⟩ := hi.oc o hm; exact ⟨A, m, d, rfl, rfl, htx.xr, by rw [← htx.xr.len]; exact h3, h4⟩
 obtain ⟨A1, n1, c1, _, hv, hxr, hn1, hws⟩ := hcs; have HX := hid hx; have HXR := hid hxr; have HTL := hid hxr.len; have HSW := hid hws; have HLW := hid hL
 have HL0 : Hid ((tabN n.lg []).length ≤ 200) := hid (by
  have h1 := tabN_len n.lg []; have h2 := hi.lg; simp only [List.length_nil] at h1
  omega)
 have HTN : Hid (∀ ws, tabN n.lg ws = ws.foldl wrT (tabN n.lg [])) := hid fun _ => rfl; have HST : Hid (Srt (tabN n.lg [])) := hid (tabN_srt _ _); have HV := hid hv; clear hx hxr hws hL hi hv; generalize waitsNd n c = ws at *; obtain ⟨t0, ht0⟩ : ∃ x, tabN n.lg [] = x := ⟨_, rfl⟩; rw [ht0] at HL0 HST; have HTN2 : Hid (tabN n.lg ws = ws.foldl wrT t0) := hid (by rw [HTN.out, ht0]); rw [ht0] at HT; clear HTN ht0; go_enter Tryz.func126, Tryz.ntmps126; go_wp2_with fail; refine HT.out.mono ?_; rintro e w1 ⟨A, m, d, rfl, hmd, hk1, k1⟩; have hx1 := HX.out.keep (fun q hq => k1.block q (HX.out.lt q hq)) k1.size; obtain ⟨_, _, _, _, y4⟩ := hx1.tops; have hlk := hx1.map.look1 hc; rw [HV.out] at hlk; have HK1 := hid k1; have HB1 : Hid (KR w1 A m ((ws.take 0).foldl wrT t0)) := hid hk1; clear HT hx1 hk1 k1; go_wp2_with fail
 go_loopw [8, 20] (fun l i wr => ∃ (q m c : Nat) (A : Option Addr), q ≤ n1 ∧ m ≤ c ∧ i = .int .i64 q ∧ l = .slice A m c ∧ Hid (KR wr A m ((ws.take q).foldl wrT t0)) ∧ Hid (Below w.heap.size w wr)) (fun _ i _ => n1 - (intOf i).toNat)
 case atStart => exact ⟨0, m, d, A, Nat.zero_le _, hmd, rfl, rfl, HB1, HK1⟩
 case round =>
  obtain ⟨q, m, c, A, hq, hmc, rfl, rfl, hkr, hw⟩ := hrel; clear HB1 HK1; by_cases hlt : q < n1
  · have hqt : q < ws.length := by rw [HTL.out]; exact hlt
    obtain ⟨ad, rfl, x1⟩ := HXR.out.cellAt hw.out hqt; have hsm := HSW.out ws[q] (List.getElem_mem hqt)
    have HNX : Hid ((ws.take (q + 1)).foldl wrT t0 = wrT ((ws.take q).foldl wrT t0) ws[q]) := hid (by
     rw [List.take_succ_eq_append_getElem hqt, List.foldl_append]
     rfl)
    have HSR : Hid (Srt ((ws.take q).foldl wrT t0)) := hid (folds_srt _ HST.out)
    have hml : m ≤ 400 := by
     have h1 := hkr.out.len; have h2 := folds_len (ws.take q) t0; simp only [List.length_take] at h2; have := HL0.out; omega
    generalize ws[q] = t at *; obtain ⟨tb, htb⟩ : ∃ x, (ws.take q).foldl wrT t0 = x := ⟨_, rfl⟩; rw [htb] at HNX HSR hkr; have HBH := hid (pbehind_ok A m c tb t wr (HLW.out.next hw.out) hkr.out hmc HSR.out hml hsm); have hi0 : (0 : Int) ≤ (q : Int) := by omega
    have hi1 : (q : Int) < (n1 : Int) := by omega
    clear htb hkr; go_wp2_with fail; refine HBH.out.mono ?_; rintro e w2 ⟨A3, n3, c3, rfl, h3, hk3, k3⟩; have HK3 : Hid (KR w2 A3 n3 ((ws.take (q + 1)).foldl wrT t0)) := hid (by rw [HNX.out]; exact hk3); have HW3 := hid (hw.out.trans (k3.mono hw.out.size)); clear HBH hk3 k3 hw; go_wp2_with fail; go_roundw
    case rel => exact ⟨q + 1, n3, c3, A3, by omega, h3, by go_num, rfl, HK3, HW3⟩
    case measure => simp [intOf]; omega
  · obtain rfl : q = n1 := by omega
    rw [List.take_of_length_le (by rw [HTL.out]; exact Nat.le_refl _)] at hkr; have HSR : Hid (Srt (ws.foldl wrT t0)) := hid (folds_srt _ HST.out)
    have hml : m ≤ 400 := by
     have h1 := hkr.out.len; have h2 := folds_len ws t0; have := HL0.out; have := HTL.out; omega
    have HOF := hid (of_ok s wr (by unfold Sm at hs; unfold maxLen; omega) (HLW.out.next hw.out)); unfold OfTo at HOF; go_wp2_with fail; refine HOF.out.mono ?_; rintro e w2 ⟨d, kk, vv, rfl, hdo, k2⟩; have HRD := hid (reads_new d kk vv A m c _ w2 (hkr.out.next k2) hmc HSR.out (by omega)); have HTB : Hid (rdT s (ws.foldl wrT t0) = readsF d kk (ws.foldl wrT t0)) := hid (rdT_of hdo _); have HW2 := hid (hw.out.trans (k2.mono hw.out.size)); unfold planV; clear HOF hdo k2 hw hkr; go_wp2_with fail; refine HRD.out.mono ?_; rintro e w3 ⟨A4, n4, c4, rfl, h4, h5, k4⟩; have HF := hid (And.intro h4 (And.intro h5 k4)); clear HRD h4 h5 k4; go_wp2_with fail; go_ret2; have hz := HW2.out.size; exact ⟨A4, n4, c4, rfl, by rw [HTN2.out, HTB.out]; exact HF.out.1, fun ad e => ⟨by have := (HF.out.2.1 ad e).1; omega, (HF.out.2.1 ad e).2⟩, HW2.out.trans (HF.out.2.2.mono hz)⟩
end
end

/- The landed node: what is done of a Write or an Unknown: contract. -/
section
open Go.RowKit Go.Maps Go.WideMaps
set_option maxRecDepth 100000
theorem strinfoN15 : (Tryz.prog.info? 9).map (fun i => (i.zero, i.size, i.bytes)) = some (some (.string ⟨#[]⟩), 1, 16) := by kernel_rfl
section
variable {b : Nat} {n : Nd} {S : Nat → Prop} {w w' : World} {k : Nat}
set_option maxHeartbeats 8000000 in
theorem pwrite15_ok (is c : Int) (his : is = 2 ∨ is = 7) (hc : I64n c) (s : ByteArray) (h : (PN b n).p S w) (hi : NdI k n) (hk : k ≤ 800) :
 Calls Tryz.prog 127 #[.pointer (some ⟨b, 0, none⟩), .int .i64 c, .string s] w fun e w' => e = .returned (doV (doNd n c is s).1) ∧ Turn (PN b (doNd n c is s).2) S w w' := by
 have HT := hid h; obtain ⟨cb, bm, AL, nl, cl, W, col, hx⟩ := h; obtain ⟨_, _, _, _, c4⟩ := hx.tops; have hl := hx.map.look hc; have HX := hid hx; rcases hx.op c hc with ⟨ho, hW⟩ | ⟨ts, A, m, d, ho, hW, htx⟩
 · rw [show doNd n c is s = layNd n [s] from by unfold doNd; rw [ho]; rcases his with rfl | rfl <;> simp]; rw [hW] at hl; simp only [slV, Option.isSome_none] at hl; have kA := kp_new w (.cells #[.string s] 9); have hx2 := hx.keep (fun q hq => kA.block q (hx.lt q hq)) kA.size
   have hxr : XR (w.alloc (.cells #[.string s] 9)) (some ⟨w.heap.size, 0, none⟩) 1 [s] := ⟨rfl, by
    have := Rd.new w 9 [.string s]; rw [show w.heap.size + 1 = (w.alloc (.cells #[.string s] 9)).heap.size from by simp] at this
    exact this⟩
   have HLAY := hid (play15_ok (some ⟨w.heap.size, 0, none⟩) 1 1 [s] hx2 hi.lg hxr (fun ad e => by
    injection e with e; subst e; refine ⟨fun e => ?_, fun e => ?_⟩
    · have := hx.lt b hx.sb.1; simp only at e; omega
    · have := hx.lt _ e.1; simp only at this
      omega) (by omega))
   have HSB := hid hx.sb.1; have HKA := hid kA; clear hx hx2 hxr kA ho hW; go_enter Tryz.func127, Tryz.ntmps127; go_wp2_with fail; refine HLAY.out.mono ?_; rintro e w3 ⟨rfl, ht⟩; have HF := hid ((ht.turn HSB.out).ahead HKA.out); clear ht HLAY HX HT; go_wp2_with fail; go_ret2; exact ⟨rfl, HF.out⟩
 obtain ⟨o, hm, rfl, rfl⟩ := opOf_mem ho; have hol := (hi.oc o hm).2.2.1; have hlen := htx.xr.len; rw [hW] at hl; simp only [slV, Option.isSome_some] at hl; by_cases hf : 200 ≤ o.ts.length
 · rw [show doNd n o.c is s = (5, n) from by unfold doNd; rw [ho]; rcases his with rfl | rfl <;> simp [hf]]; obtain rfl : m = 200 := by omega
   clear hx ho hW htx hm hf hol hlen; go_enter Tryz.func127, Tryz.ntmps127; go_wp2_with fail; go_ret2; exact ⟨rfl, Turn.here HT.out⟩
 rw [show doNd n o.c is s = (0, { n with op := putOp o.c (o.ts ++ [s]) n.op }) from by unfold doNd; rw [ho]; rcases his with rfl | rfl <;> simp [hf]]; obtain ⟨i0, hi0, hz0, hz1, hz2⟩ := info_parts strinfoN15; have hm2 : ((m : Int) == 200) = false := by simp; omega
 have kA : Below w.heap.size w ((w.alloc (.cells #[.string s] 9)).drew) := (kp_new w _).drew; have hown : ((w.alloc (.cells #[.string s] 9)).drew).ownsRow 0 9 1 (.slice A m d) m (tvs o.ts) := own_keep htx.own fun g hg => kA.block g (hx.lt g (htx.at_ g hg).1)
 have hc0 : ((w.alloc (.cells #[.string s] 9)).drew).cell? ⟨w.heap.size, 0, none⟩ = some (.string s) := by
  show (w.alloc (.cells #[.string s] 9)).cell? ⟨w.heap.size, 0, none⟩ = some (.string s); rw [cell_of_row _ _ 0 _ _ (0, 0) (heap_alloc_new w _)]; rfl
 obtain ⟨A5, c5, w5, hrun, hown5, hg5, hwh⟩ := run_append_one (P := Tryz.prog) 35 35 9 i0 _ 16 Tryz.underlying35 hi0 hz0 hz1 hz2 rfl hown ⟨w.heap.size, 0, none⟩ 1 (.string s) hc0 rfl (by omega) (by omega); have hbm : bm ≠ b := hx.mne; have hw5 : ∀ q, q < w.heap.size → (Value.slice A m d).ownBlock ≠ some q → w5.heap[q]? = w.heap[q]? := fun q hq hn => (hg5.block q (Nat.lt_of_lt_of_le hq kA.size) (fun e => hn e.symm)).trans (kA.block q hq); have hrole : ∀ q, col q ≠ .tx o.c → (Value.slice A m d).ownBlock ≠ some q := fun q h1 e => h1 (htx.at_ q e).2; have hm5 : MapW w5 bm n.op.length W := hx.map.keep (hw5 bm (hx.lt bm hx.sm.1) (hrole bm (by rw [hx.sm.2]; exact fun e => nomatch e))); obtain ⟨w6, hput, hm6, hg6⟩ := hm5.put (by have := hi.ol; omega) hc (flat_own hown5) (m + 1) c5; have HF := hid (hx.waits ho hW htx s kA hown5 hg5 hwh hm6 hg6); have HRUN := hid hrun; have hblt := hx.lt b hx.sb.1; have hv5 : w5.cell? ⟨b, 4, none⟩ = some (.map (some bm)) := (cellsAt ((hw5 b hblt (hrole b (by rw [hx.sb.2]; exact fun e => nomatch e))).trans hx.top) 4 rfl).1; clear hx ho hW htx hm hf hol hlen hown hc0 hown5 hg5 hwh hbm hw5 hrole hm5 hm6 hg6 kA HX hrun; go_enter Tryz.func127, Tryz.ntmps127; go_wp2_with fail; go_region_law (refine step_append_run rfl (.tmp 28) (.tmp 30) _ rfl _ _ rfl rfl HRUN.out ?_)
 all_goals
  go_wp2_with fail; go_ret2; exact ⟨rfl, HF.out⟩
end
end

/- The landed node: Run: contract. -/
section
open Go.RowKit Go.Maps Go.WideMaps
set_option maxRecDepth 100000
theorem clsT_le (s : ByteArray) : clsT s = 0 ∨ clsT s = 1 ∨ clsT s = 2 ∨ clsT s = 3 ∨ clsT s = 4 ∨ clsT s = 5 ∨ clsT s = 6 ∨ clsT s = 7 := by
 have h1 : ∀ (rest : List Tok) (c : Int), exF rest c = 1 ∨ exF rest c = 2 ∨ exF rest c = 7 := fun rest c => by
  unfold exF
  (repeat' split) <;> simp
 have h3 : ∀ (v : Int) (rest : List Tok) (x : Int), (x = 1 ∨ x = 2 ∨ x = 7) → 1 ≤ famB v rest x ∧ famB v rest x ≤ 7 := fun v rest x h => by
  unfold famB selF ifF
  (repeat' split) <;> omega
 have h2 : ∀ l : List Tok, 1 ≤ classF l ∧ classF l ≤ 7 := fun l => by
  cases l with
  | nil => rw [classF_nil]; omega
  | cons t r =>
    cases hb : (decide (t.1 ≠ 1) || (t :: r).any stopF) with
    | true => rw [classF, hb, if_pos rfl]; omega
    | false => rw [classF, hb, if_neg (by simp)]; exact h3 _ _ _ (h1 r _)
 unfold clsT classA; split
 · have := h2 (bodyF (lexA s.data.toList).1); omega
 · simp
theorem run15_of (n : Nd) (c e : Int) (rd : Bool) (s : ByteArray) : (runNd n c e rd s).1.ep = (runNd n c e rd s).2.ep ∧ (runNd n c e rd s).1.pl = (runNd n c e rd s).2.lg.length := by
 unfold runNd; split
 · exact ⟨rfl, rfl⟩
 split <;> exact ⟨rfl, rfl⟩
section
variable {b : Nat} {n : Nd} {S : Nat → Prop} {w w' : World} {k : Nat}
theorem PN.classes (s : ByteArray) (hs : Sm s) (hL : Lw w) {cb bm : Nat} {AL : Option Addr} {nl cl : Nat} {W : Wts} {col : Nat → Role} (hx : PNx b n cb bm AL nl cl W col S w) :
 Calls Tryz.prog 26 #[.pointer (some ⟨cb, 0, none⟩), .string s] w fun e w' => e = .returned (.int .i64 (clsT s)) ∧ Turn (PN b n) S w w' ∧ Lw w' := by
 obtain ⟨hcS, hclt, x, hcx⟩ := hx.cls; have hM : CLm (fun q => (S q ∧ col q = .cls) ∨ w.heap.size ≤ q) w cb := ⟨fun q hq => .inr hq, x, hcx.imp id fun ⟨q, a1, a2, a3, a4⟩ => ⟨q, a1, a2, a3, .inl a4⟩⟩
 have hgc : cb ≠ 0 := fun e => by
  obtain ⟨m, hm0⟩ := hL; have hm : w.cell? ⟨cb, 0, none⟩ = some (.int .i64 m) := by rw [e]; exact hm0
  rcases hcx with h | ⟨q, h, _⟩
  · have := h.cells.1; rw [hm] at this; cases this
  · have := h.cells.1; rw [hm] at this; cases this
 refine (class_m s cb w (by unfold Sm at hs; unfold maxLen; omega) hL hM).mono ?_; rintro e w' ⟨rfl, ⟨_, x', hc'⟩, hb⟩; have hoff : Off S w w' := Off.bel hcS.1 hb; refine ⟨rfl, PN.turn (hx.classed hc' (fun q hq hn => hb.block q (hx.lt q hq) hn) hb.size) hoff, ?_⟩; obtain ⟨m, hm⟩ := hL; exact ⟨m, (World.cell?_of_block (hb.block _ (World.block_lt_of_cell? _ _ hm) (Ne.symm hgc))).trans hm⟩
structure Does (b : Nat) (n' : Nd) (S : Nat → Prop) (er : Int) (ts : List ByteArray) (w : World) (e : Ending) (w' : World) : Prop where
 at_ : ∃ A m d, e = .returned (.tuple #[.slice A m d, .int .i64 er]) ∧ XR w' A m ts ∧ Told1 (PN b n') S A w w'
theorem Does.turn {n' : Nd} {er : Int} (h : Turn (PN b n') S w w') : Does b n' S er [] w (.returned (doV er)) w' := ⟨⟨none, 0, 0, rfl, XR.nil w', h.none⟩⟩
theorem Does.ahead {n' : Nd} {er : Int} {ts : List ByteArray} {e : Ending} {u : World} (h : Does b n' S er ts u e w') (hb : Below w.heap.size w u) : Does b n' S er ts w e w' := by
 obtain ⟨A, m, d, h1, h2, ⟨S', h3, h4, h5⟩, h6⟩ := h; have hz := hb.size; exact ⟨⟨A, m, d, h1, h2, ⟨S', h3, fun q hq => (h4 q hq).imp id (fun e => by omega), fun ad e => ⟨by have := (h5 ad e).1; omega, (h5 ad e).2⟩⟩, (Off.of S hb).trans h6 fun _ h => .inl h⟩⟩
theorem Does.comp {n' : Nd} {er : Int} {ts : List ByteArray} {e : Ending} {u : World} {S1 : Nat → Prop} (h2 : ∀ q, S1 q → S q ∨ w.heap.size ≤ q) (h3 : Off S w u) (h : Does b n' S1 er ts u e w') : Does b n' S er ts w e w' := by
 obtain ⟨A, m, d, h1, h4, ⟨S', h5, h6, h7⟩, h8⟩ := h; have hz := h3.size; exact ⟨⟨A, m, d, h1, h4, ⟨S', h5, fun q hq => (h6 q hq).elim (fun e => h2 q e) (fun e => .inr (by omega)), fun ad e => ⟨by have := (h7 ad e).1; omega, (h7 ad e).2⟩⟩, h3.trans h8 h2⟩⟩
theorem run15_err {n : Nd} {c e : Int} {rd : Bool} {s : ByteArray} {x : Int} (h : whyNd n e rd (clsT s) = x) (hx : x ≠ 0) : (runNd n c e rd s).2 = n ∧ (runNd n c e rd s).1.e = x ∧ (runNd n c e rd s).1.ts = [] := by
 unfold runNd; rw [if_pos (by rw [h]; exact hx)]; exact ⟨rfl, h, rfl⟩
theorem run15_does {n : Nd} {c e : Int} {rd : Bool} {s : ByteArray} (h : whyNd n e rd (clsT s) = 0) : (runNd n c e rd s).2 = (if clsT s ≠ 1 then (doNd n c (clsT s) s).2 else n) ∧ (runNd n c e rd s).1.e = (if clsT s ≠ 1 then (doNd n c (clsT s) s).1 else 0) ∧ (runNd n c e rd s).1.ts = if clsT s ≠ 1 then [] else rdT s (tabN n.lg (waitsNd n c)) := by
 unfold runNd; rw [if_neg (by rw [h]; exact fun e => e rfl)]; split <;> exact ⟨rfl, rfl, rfl⟩
set_option maxHeartbeats 16000000 in
theorem prun15_ok (c e : Int) (rd : Bool) (s : ByteArray) (hL : Lw w) (h : (PN b n).p S w) (hi : NdI k n) (hk : k ≤ 800) (hs : Sm s) (hc : I64n c) :
 Calls Tryz.prog 83 #[.pointer (some ⟨b, 0, none⟩), .int .i64 c, .int .u64 e, .bool rd, .string s] w (Does b (runNd n c e rd s).2 S (runNd n c e rd s).1.e (runNd n c e rd s).1.ts w) := by
 suffices hall : ∀ R : Ending → World → Prop, (∀ e' w', Does b (runNd n c e rd s).2 S (runNd n c e rd s).1.e (runNd n c e rd s).1.ts w e' w' → R e' w') → Calls Tryz.prog 83 #[.pointer (some ⟨b, 0, none⟩), .int .i64 c, .int .u64 e, .bool rd, .string s] w R from hall _ fun _ _ h => h
 intro R hR; obtain ⟨cb, bm, AL, nl, cl, W, col, hx⟩ := h; obtain ⟨c0, _⟩ := hx.tops; have HC := hid (PN.classes s hs hL hx); have HI := hid hi; clear hx; go_enter Tryz.func83, Tryz.ntmps83; go_wp2_with fail; refine HC.out.mono ?_; rintro e1 w1 ⟨rfl, ht, hL1⟩
 have HE : Hid (∀ x, whyNd n e rd (clsT s) = x → x ≠ 0 → R (.returned (.tuple #[.slice none 0 0, .int .i64 x])) w1) := hid fun x h1 h2 => hR _ _ (by
  obtain ⟨k1, k2, k3⟩ := run15_err (c := c) h1 h2; rw [k1, k2, k3]
  exact Does.turn ht)
 have HL1 := hid hL1; obtain ⟨⟨S1, h1, hS1⟩, hof⟩ := ht; have HD0 := hid h1
 have HDo : Hid (∀ j, clsT s = j → j ≠ 1 → whyNd n e rd j = 0 → ∀ w2 w3, Below w1.heap.size w1 w2 → Turn (PN b (doNd n c j s).2) S1 w2 w3 → R (.returned (.tuple #[.slice none 0 0, .int .i64 (doNd n c j s).1])) w3) := hid fun j hj hj1 hw w2 w3 hb h3 => hR _ _ (by
  obtain ⟨k1, k2, k3⟩ := run15_does (c := c) (by rw [hj]; exact hw); rw [k1, k2, k3, hj, if_pos hj1, if_pos hj1, if_pos hj1]
  exact Does.comp hS1 hof ((Does.turn h3).ahead hb))
 have HRd : Hid (clsT s = 1 → whyNd n e rd 1 = 0 → ∀ A m d w2 w3, Below w1.heap.size w1 w2 → XR w3 A m (rdT s (tabN n.lg (waitsNd n c))) → (∀ ad, A = some ad → w2.heap.size ≤ ad.block ∧ ad.block < w3.heap.size) → Below w2.heap.size w2 w3 → R (.returned (.tuple #[.slice A m d, .int .i64 0])) w3) := hid fun hj hw A m d w2 w3 hb h3 h4 h5 => hR _ _ (by
  obtain ⟨k1, k2, k3⟩ := run15_does (c := c) (by rw [hj]; exact hw); rw [k1, k2, k3, if_neg (fun h => h hj), if_neg (fun h => h hj), if_neg (fun h => h hj)]; have h6 := Thing.next h1 hb; refine Does.comp hS1 hof (Does.ahead ⟨⟨A, m, d, rfl, h3, ⟨S1, Thing.next h6 h5, fun _ h => .inl h, fun ad e => ⟨(h4 ad e).1, (h4 ad e).2, fun hS => ?_⟩⟩, Off.of S1 h5⟩⟩ hb); have := (PN b n).lt h6 _ hS; have := (h4 ad e).1
  omega)
 obtain ⟨cb1, bm1, AL1, nl1, cl1, W1, col1, hx1⟩ := h1; obtain ⟨_, d1, d2, _⟩ := hx1.tops; clear HC hx1 hof hS1 hL1 c0 hR; by_cases he : e = n.ep
 rotate_left
 · have hq : (e != n.ep) = true := by simpa using he
   go_wp2_with fail; exact HE.out 8 (by unfold whyNd; rw [if_pos he]) (by decide)
 subst he; rcases clsT_le s with hcl | hcl | hcl | hcl | hcl | hcl | hcl | hcl
 · rw [hcl]; go_wp2_with fail; exact HE.out 2 (by rw [hcl]; simp [whyNd]) (by decide)
 · rw [hcl]
   cases rd with
   | true =>
     go_wp2_with fail; refine (acts_ok _).mono ?_; rintro e2 w2 ⟨bm2, rfl, hlk, hb2⟩; have hlk2 : (Instr.lookup 177 (.map (some bm2)) (.int .i64 1) false).run Tryz.prog w2 = .ok (.func (.func 126) #[] #[]) w2 := hlk (1, 126) (by simp [actL]); have HM := hid (pread15_ok c hc s hs (Thing.next HD0.out hb2) (HL1.out.next hb2) HI.out); have HB2 := hid hb2; clear hlk hb2; go_wp2_with fail; refine HM.out.mono ?_; rintro e3 w3 ⟨A3, m3, d3, rfl, h3, h4, h5⟩; have HF := hid (HRd.out hcl (by simp [whyNd]) A3 m3 d3 w2 w3 HB2.out h3 h4 h5); clear h3 h4 h5 hlk2 HM; go_wp2_with fail; exact HF.out
   | false =>
     cases hld : n.ld with
     | false =>
       rw [hld] at d2; go_wp2_with fail; exact HE.out 7 (by rw [hcl]; simp [whyNd, hld]) (by decide)
     | true =>
       rw [hld] at d2; go_wp2_with fail; refine (acts_ok _).mono ?_; rintro e2 w2 ⟨bm2, rfl, hlk, hb2⟩; have hlk2 : (Instr.lookup 177 (.map (some bm2)) (.int .i64 1) false).run Tryz.prog w2 = .ok (.func (.func 126) #[] #[]) w2 := hlk (1, 126) (by simp [actL]); have HM := hid (pread15_ok c hc s hs (Thing.next HD0.out hb2) (HL1.out.next hb2) HI.out); have HB2 := hid hb2; clear hlk hb2; go_wp2_with fail; refine HM.out.mono ?_; rintro e3 w3 ⟨A3, m3, d3, rfl, h3, h4, h5⟩; have HF := hid (HRd.out hcl (by simp [whyNd, hld]) A3 m3 d3 w2 w3 HB2.out h3 h4 h5); clear h3 h4 h5 hlk2 HM; go_wp2_with fail; exact HF.out
 · rw [hcl]
   cases rd with
   | true =>
     go_wp2_with fail; exact HE.out 2 (by rw [hcl]; simp [whyNd]) (by decide)
   | false =>
     cases hld : n.ld with
     | false =>
       rw [hld] at d2; go_wp2_with fail; exact HE.out 7 (by rw [hcl]; simp [whyNd, hld]) (by decide)
     | true =>
       rw [hld] at d2; go_wp2_with fail; refine (acts_ok _).mono ?_; rintro e2 w2 ⟨bm2, rfl, hlk, hb2⟩; have hlk2 : (Instr.lookup 177 (.map (some bm2)) (.int .i64 2) false).run Tryz.prog w2 = .ok (.func (.func 127) #[] #[]) w2 := hlk (2, 127) (by simp [actL]); have HM := hid (pwrite15_ok 2 c (.inl rfl) hc s (Thing.next HD0.out hb2) HI.out hk); have HB2 := hid hb2; clear hlk hb2; go_wp2_with fail; refine HM.out.mono ?_; rintro e3 w3 ⟨rfl, ht3⟩; have HF := hid (HDo.out 2 hcl (by decide) (by simp [whyNd, hld]) w2 w3 HB2.out ht3); clear ht3 hlk2 HM; unfold doV; go_wp2_with fail; exact HF.out
 · rw [hcl]
   cases rd with
   | true =>
     go_wp2_with fail; exact HE.out 2 (by rw [hcl]; simp [whyNd]) (by decide)
   | false =>
     cases hld : n.ld with
     | false =>
       rw [hld] at d2; go_wp2_with fail; exact HE.out 7 (by rw [hcl]; simp [whyNd, hld]) (by decide)
     | true =>
       rw [hld] at d2; go_wp2_with fail; refine (acts_ok _).mono ?_; rintro e2 w2 ⟨bm2, rfl, hlk, hb2⟩; have hlk2 : (Instr.lookup 177 (.map (some bm2)) (.int .i64 3) false).run Tryz.prog w2 = .ok (.func (.func 128) #[] #[]) w2 := hlk (3, 128) (by simp [actL]); have HM := hid (pbegin15_ok c hc s (Thing.next HD0.out hb2) HI.out hk); have HB2 := hid hb2; clear hlk hb2; go_wp2_with fail; refine HM.out.mono ?_; rintro e3 w3 ⟨rfl, ht3⟩; have HF := hid (HDo.out 3 hcl (by decide) (by simp [whyNd, hld]) w2 w3 HB2.out ht3); clear ht3 hlk2 HM; unfold doV; go_wp2_with fail; exact HF.out
 · rw [hcl]
   cases rd with
   | true =>
     go_wp2_with fail; exact HE.out 2 (by rw [hcl]; simp [whyNd]) (by decide)
   | false =>
     cases hld : n.ld with
     | false =>
       rw [hld] at d2; go_wp2_with fail; exact HE.out 7 (by rw [hcl]; simp [whyNd, hld]) (by decide)
     | true =>
       rw [hld] at d2; go_wp2_with fail; refine (acts_ok _).mono ?_; rintro e2 w2 ⟨bm2, rfl, hlk, hb2⟩; have hlk2 : (Instr.lookup 177 (.map (some bm2)) (.int .i64 4) false).run Tryz.prog w2 = .ok (.func (.func 129) #[] #[]) w2 := hlk (4, 129) (by simp [actL]); have HM := hid (pcommit15_ok c hc s (Thing.next HD0.out hb2) HI.out); have HB2 := hid hb2; clear hlk hb2; go_wp2_with fail; refine HM.out.mono ?_; rintro e3 w3 ⟨rfl, ht3⟩; have HF := hid (HDo.out 4 hcl (by decide) (by simp [whyNd, hld]) w2 w3 HB2.out ht3); clear ht3 hlk2 HM; unfold doV; go_wp2_with fail; exact HF.out
 · rw [hcl]
   cases rd with
   | true =>
     go_wp2_with fail; exact HE.out 2 (by rw [hcl]; simp [whyNd]) (by decide)
   | false =>
     cases hld : n.ld with
     | false =>
       rw [hld] at d2; go_wp2_with fail; exact HE.out 7 (by rw [hcl]; simp [whyNd, hld]) (by decide)
     | true =>
       rw [hld] at d2; go_wp2_with fail; refine (acts_ok _).mono ?_; rintro e2 w2 ⟨bm2, rfl, hlk, hb2⟩; have hlk2 : (Instr.lookup 177 (.map (some bm2)) (.int .i64 5) false).run Tryz.prog w2 = .ok (.func (.func 130) #[] #[]) w2 := hlk (5, 130) (by simp [actL]); have HM := hid (prollback15_ok c hc s (Thing.next HD0.out hb2) HI.out); have HB2 := hid hb2; clear hlk hb2; go_wp2_with fail; refine HM.out.mono ?_; rintro e3 w3 ⟨rfl, ht3⟩; have HF := hid (HDo.out 5 hcl (by decide) (by simp [whyNd, hld]) w2 w3 HB2.out ht3); clear ht3 hlk2 HM; unfold doV; go_wp2_with fail; exact HF.out
 · rw [hcl]
   cases rd with
   | true =>
     go_wp2_with fail; exact HE.out 2 (by rw [hcl]; simp [whyNd]) (by decide)
   | false =>
     cases hld : n.ld with
     | false =>
       rw [hld] at d2; go_wp2_with fail; exact HE.out 7 (by rw [hcl]; simp [whyNd, hld]) (by decide)
     | true =>
       rw [hld] at d2; go_wp2_with fail; refine (acts_ok _).mono ?_; rintro e2 w2 ⟨bm2, rfl, hlk, hb2⟩; have hlk2 : (Instr.lookup 177 (.map (some bm2)) (.int .i64 6) false).run Tryz.prog w2 = .ok (.func (.func 131) #[] #[]) w2 := hlk (6, 131) (by simp [actL]); have HM := hid (ppass15_ok c s (Thing.next HD0.out hb2)); have HB2 := hid hb2; clear hlk hb2; go_wp2_with fail; refine HM.out.mono ?_; rintro e3 w3 ⟨rfl, ht3⟩; have HF := hid (HDo.out 6 hcl (by decide) (by simp [whyNd, hld]) w2 w3 HB2.out ht3); clear ht3 hlk2 HM; unfold doV; go_wp2_with fail; exact HF.out
 · rw [hcl]
   cases rd with
   | true =>
     go_wp2_with fail; exact HE.out 2 (by rw [hcl]; simp [whyNd]) (by decide)
   | false =>
     cases hld : n.ld with
     | false =>
       rw [hld] at d2; go_wp2_with fail; exact HE.out 7 (by rw [hcl]; simp [whyNd, hld]) (by decide)
     | true =>
       rw [hld] at d2; go_wp2_with fail; refine (acts_ok _).mono ?_; rintro e2 w2 ⟨bm2, rfl, hlk, hb2⟩; have hlk2 : (Instr.lookup 177 (.map (some bm2)) (.int .i64 7) false).run Tryz.prog w2 = .ok (.func (.func 127) #[] #[]) w2 := hlk (7, 127) (by simp [actL]); have HM := hid (pwrite15_ok 7 c (.inr rfl) hc s (Thing.next HD0.out hb2) HI.out hk); have HB2 := hid hb2; clear hlk hb2; go_wp2_with fail; refine HM.out.mono ?_; rintro e3 w3 ⟨rfl, ht3⟩; have HF := hid (HDo.out 7 hcl (by decide) (by simp [whyNd, hld]) w2 w3 HB2.out ht3); clear ht3 hlk2 HM; unfold doV; go_wp2_with fail; exact HF.out
theorem Told1.reply {Y : Thing} {A : Option Addr} {wA w3 wf : World} {rb : Nat} (ht : Told1 Y S A wA w3) (kA : Below w.heap.size w wA) (hrb : w.heap.size = rb) (hz : wA.heap.size = rb + 1) (hS : ∀ k, S k → k < w.heap.size) (ho : Off (fun k => k = rb) w3 wf) : Told1 Y S A w wf := by
 obtain ⟨⟨S', h1, h2, h3⟩, h4⟩ := ht
 have hne : ∀ q, S' q → q ≠ rb := fun q hq => by
  rcases h2 q hq with h | h
  · have := hS q h; omega
  · omega
 have h1' := Thing.off h1 ho hne; have hz3 := ho.size; refine ⟨⟨S', h1', fun q hq => (h2 q hq).imp id (fun e => by omega), fun ad e => ⟨by have := (h3 ad e).1; omega, by have := (h3 ad e).2.1; omega, (h3 ad e).2.2⟩⟩, ?_⟩; exact ((Off.of S kA).trans h4 fun _ h => .inl h).trans ho fun q hq => .inr (by omega)
set_option maxHeartbeats 8000000 in
theorem prunR15_ok (c e : Int) (rd : Bool) (s : ByteArray) (hL : Lw w) (h : (PN b n).p S w) (hi : NdI k n) (hk : k ≤ 800) (hs : Sm s) (hc : I64n c) :
 Calls Tryz.prog 53 #[.pointer (some ⟨b, 0, none⟩), .int .i64 c, .int .u64 e, .bool rd, .string s] w fun e' w' => ∃ A m d, e' = .returned (rpV (runNd n c e rd s).1 A m d) ∧ XR w' A m (runNd n c e rd s).1.ts ∧ Told1 (PN b (runNd n c e rd s).2) S A w w' := by
 have kA := kp_new w (.cells #[.int .i64 0, .int .u64 0, .int .u64 0, .slice none 0 0] 73); have hnew := heap_alloc_new w (.cells #[.int .i64 0, .int .u64 0, .int .u64 0, .slice none 0 0] 73); have hzA : (w.alloc (.cells #[.int .i64 0, .int .u64 0, .int .u64 0, .slice none 0 0] 73)).heap.size = w.heap.size + 1 := by simp
 obtain ⟨hep, hpl⟩ := run15_of n c e rd s; have hlg : (runNd n c e rd s).2.lg.length ≤ 200 := (hi.run (e := e) (rd := rd) hs hc.1 hc.2).lg; have hR := prun15_ok c e rd s (hL.next kA) (Thing.next h kA) hi hk hs hc; have HB := hid ((PN b n).lt h); generalize (runNd n c e rd s).2 = n2 at *; generalize (runNd n c e rd s).1 = r1 at *; obtain ⟨er, ep, pl, ts⟩ := r1; dsimp only at hep hpl hR; subst hep hpl; obtain ⟨wA, hwA⟩ : ∃ y, w.alloc (.cells #[.int .i64 0, .int .u64 0, .int .u64 0, .slice none 0 0] 73) = y := ⟨_, rfl⟩; obtain ⟨rb, hrb⟩ : ∃ y, w.heap.size = y := ⟨_, rfl⟩; rw [hwA] at kA hnew hzA hR; rw [hrb] at hnew hzA; have HR := hid hR; have HWA := hid hwA; have HRB := hid hrb; have HKA := hid kA; have HNEW := hid hnew; have HZA := hid hzA; clear h hi hR hwA hrb kA hnew hzA; go_enter Tryz.func53, Tryz.ntmps53; go_wp2_with fail; rw [HWA.out, HRB.out]; refine HR.out.mono ?_; rintro e3 w3 ⟨A, m, d, rfl, hxr, ht⟩; obtain ⟨⟨S', hp, hS', hA⟩, hof⟩ := id ht; obtain ⟨cb, bm, AL, nl, cl, W, col, hx⟩ := hp; obtain ⟨_, c1, _, c3, _⟩ := hx.tops; have hr3 : w3.heap[rb]? = some (.cells #[.int .i64 0, .int .u64 0, .int .u64 0, .slice none 0 0] 73 (0, 0)) := (hof.block rb (by have := HZA.out; omega) (fun h => by have := HB.out rb h; have := HRB.out; omega)).trans HNEW.out; obtain ⟨r0, f0⟩ := cellsAt hr3 0 (v := .int .i64 0) rfl; obtain ⟨r1, f1⟩ := cellsAt hr3 1 (v := .int .u64 0) rfl; obtain ⟨r2, f2⟩ := cellsAt hr3 2 (v := .int .u64 0) rfl; obtain ⟨r3, f3⟩ := cellsAt hr3 3 (v := .slice none 0 0) rfl; have hnl := hx.llen; have hnl2 : nl ≤ 200 := by rw [← hnl]; exact hlg
 have hwp : IntKind.u64.wrap (nl : Int) = nl := by rw [IntKind.wrap_u64]; omega
 have hbr : b ≠ rb := fun e => by
  rcases hS' b hx.sb.1 with h | h
  · have := HB.out b h; have := HRB.out; omega
  · have := HZA.out; omega
 have HT := hid ht; have HXR := hid hxr; have HAb : Hid (∀ ad, A = some ad → ad.block ≠ rb) := hid fun ad e h => by have := (hA ad e).1; have := HZA.out; omega
 have HNL := hid hnl; clear hx hof hA hS' ht hxr hr3 HR hnl; go_wp2_with fail; go_region
 all_goals
  go_wp2_with fail; have hof : Off (fun k => k = rb) w3 _ := ((((Off.refl (fun k => k = rb) w3).setCell (p := ⟨rb, 0, none⟩) (.inl rfl) (.int .i64 er)).setCell (p := ⟨rb, 1, none⟩) (.inl rfl) (.int .u64 n2.ep)).setCell (p := ⟨rb, 2, none⟩) (.inl rfl) (.int .u64 nl)).setCell (p := ⟨rb, 3, none⟩) (.inl rfl) (.slice A m d); refine bodyPost_ret (v := .agg #[.int .i64 er, .int .u64 n2.ep, .int .u64 nl, .slice A m d]) ?_ rfl ⟨A, m, d, ?_, HXR.out.offO hof.drew (fun ad e => HAb.out ad e), HT.out.reply HKA.out HRB.out HZA.out HB.out hof.drew⟩
  · rw [results_cell1 rfl]; go_simp
  · unfold rpV; rw [HNL.out]
end
end

/- The landed node: entries compared, alike, slices.Clone at entries, Log: contracts. -/
section
open Go.RowKit Go.Maps Go.WideMaps
set_option maxRecDepth 100000
theorem eql_entsN (T : TypeId) (hT : T = 69) (k k' : Int) (t t' : ByteArray) (w : World) : (binOp .eql T (.agg #[.int .u64 k, .string t]) (.agg #[.int .u64 k', .string t'])).run Tryz.prog w = .ok (.bool (decide ((⟨k, t⟩ : Lg) = ⟨k', t'⟩))) w := by
 subst hT; have hf : (Tryz.prog.fieldsOf 69) = (match Tryz.prog.underlying 69 with | some (.struct fs) => fs | _ => #[]) := rfl; have hu := Tryz.underlying69; rw [hu] at hf; rw [run_eql_struct, run_equalIn_agg (P := Tryz.prog) w 9999 _ _ _ (by rw [hf]; exact hu) (by kernel_rfl), hf]; have h9 := Tryz.underlying9; have hz9 := Tryz.sizeOf9; have ha9 := Tryz.isAgg9; have h8 := Tryz.underlying32; have hz8 := Tryz.sizeOf32; have ha8 := Tryz.isAgg32; have p1 : ∀ (x : Int) (u : ByteArray) (w : World), (part 32 #[.int .u64 x, .string u] 0).run Tryz.prog w = .ok (.int .u64 x) w := fun x u w => by simp [part, hz8, ha8]
 have p2 : ∀ (x : Int) (u : ByteArray) (w : World), (part 9 #[.int .u64 x, .string u] 1).run Tryz.prog w = .ok (.string u) w := fun x u w => by simp [part, hz9, ha9]
 have e1 : ∀ (x y : Int) (w : World), (Op.equalIn 9999 32 (.int .u64 x) (.int .u64 y)).run Tryz.prog w = .ok (x == y) w := fun x y w => run_equalIn_int w 9998 32 .u64 .u64 x y h8; have e2 : ∀ (x y : ByteArray) (w : World), (Op.equalIn 9999 9 (.string x) (.string y)).run Tryz.prog w = .ok (x.toList == y.toList) w := fun x y w => run_equalIn_string w 9998 9 x y h9; have ht : t.toList = t'.toList ↔ t = t' := ⟨bytes_ext, fun h => by rw [h]⟩; by_cases h1 : k = k'
 · by_cases h2 : t = t'
   · simp [Op.eqFields, p1, p2, e1, e2, h1, h2]
   · simp [Op.eqFields, p1, p2, e1, e2, ht, h1, h2]
 · simp [Op.eqFields, p1, p2, e1, e2, h1]
set_option maxHeartbeats 4000000 in
theorem palike_ok (A A' : Option Addr) (n n' c c' : Nat) (xs ys : List Lg) (w : World) (hx : LR w A n xs) (hy : LR w A' n' ys) (hn : n ≤ 1000000) :
 Calls Tryz.prog 85 #[.slice A n c, .slice A' n' c'] w fun e w' => e = .returned (.int .i64 (sameLg xs ys)) ∧ ∃ m, w' = w.drewN m := by
 have hlx := hid hx.len; have hly := hid hy.len
 obtain ⟨z, hmn, hz⟩ : ∃ z : Nat, (∀ (u : World) (ts : Array TypeId) (ty : TypeId), (Builtin.min_ ts ty #[.int .i64 (n : Int), .int .i64 (n' : Int)]).run Tryz.prog u = .ok (.int .i64 (z : Int)) u) ∧ z = min n n' := ⟨_, fun u ts ty => by
  rw [run_min_int2 (P := Tryz.prog) (w := u) ts ty .i64 .i64 (n : Int) n']; congr 2
  split <;> omega, rfl⟩
 have HZ := hid hz; have hzn : z ≤ 1000000 := by omega
 clear hz; go_enter Tryz.func85, Tryz.ntmps85; go_wp2_with fail
 go_loopw [5] (fun i wr => ∃ k m : Nat, k ≤ z ∧ i = .int .i64 k ∧ Hid (xs.take k = ys.take k) ∧ wr = w.drewN m) (fun i _ => z - (intOf i).toNat)
 case atStart => exact ⟨0, 0, Nat.zero_le _, rfl, hid (by simp), rfl⟩
 case round =>
  obtain ⟨k, m, hk, rfl, he, hw⟩ := hrel; have hx' : LR wr A n xs := by subst hw; exact hx.next (kp_drewN _ _)
  have hy' : LR wr A' n' ys := by subst hw; exact hy.next (kp_drewN _ _)
  have HW := hid hw; clear hw hx hy; by_cases hlt : k < z
  · have hkn : k < n := by have := HZ.out; omega
    have hkn' : k < n' := by have := HZ.out; omega
    have hkx : k < xs.length := by rw [hlx.out]; omega
    have hky : k < ys.length := by rw [hly.out]; omega
    obtain ⟨ad, rfl, _, hc⟩ := hx'.at_ hkx; obtain ⟨ad', rfl, _, hc'⟩ := hy'.at_ hky; obtain ⟨c0, c1⟩ := hc _ (Below.refl _ _); obtain ⟨d0, d1⟩ := hc' _ (Below.refl _ _); clear hc hc' hx' hy'; have hE := fun u => eql_entsN 69 rfl xs[k].e ys[k].e xs[k].t ys[k].t u; have hi0 : (0 : Int) ≤ (k : Int) := by omega
    have hi1 : (k : Int) < (n : Int) := by omega
    have hi2 : (k : Int) < (n' : Int) := by omega
    have hi3 : (k : Int) < (z : Int) := by omega
    by_cases hee : xs[k] = ys[k]
    · have hsn : Hid (xs.take (k + 1) = ys.take (k + 1)) := hid (take_same6 hkx hky he.out hee); have hd : decide ((⟨xs[k].e, xs[k].t⟩ : Lg) = ⟨ys[k].e, ys[k].t⟩) = true := decide_eq_true (by exact hee); rw [hd] at hE; clear hee hd; generalize xs[k].e = x at *; generalize ys[k].e = y at *; generalize xs[k].t = s at *; generalize ys[k].t = t at *; go_wp2_with fail; go_quiet (fail); go_wp2_with fail; go_roundw
      case rel => exact ⟨k + 1, m + nq, by omega, by go_num, hsn, by rw [HW.out, World.drewN_drewN]⟩
      case measure => simp [intOf]; omega
    · have hS : Hid (sameLg xs ys = k) := hid (sameLg_of (Nat.le_of_lt hkx) (Nat.le_of_lt hky) he.out fun _ _ => hee); have hd : decide ((⟨xs[k].e, xs[k].t⟩ : Lg) = ⟨ys[k].e, ys[k].t⟩) = false := decide_eq_false (by exact hee); rw [hd] at hE; clear hee hd; generalize xs[k].e = x at *; generalize ys[k].e = y at *; generalize xs[k].t = s at *; generalize ys[k].t = t at *; go_wp2_with fail; go_quiet (fail); go_wp2_with fail; go_ret; exact ⟨by rw [hS.out]; rfl, m + nq, by rw [HW.out, World.drewN_drewN]⟩
  · obtain rfl : k = z := by omega
    have hS : Hid (sameLg xs ys = k) := hid (sameLg_of (by rw [hlx.out]; have := HZ.out; omega) (by rw [hly.out]; have := HZ.out; omega) he.out fun ha hb => by
     rw [hlx.out] at ha; rw [hly.out] at hb; have := HZ.out
     omega)
    have hi3 : ¬ (k : Int) < (k : Int) := by omega
    go_wp2_with fail; go_quiet (fail); go_wp2_with fail; go_ret; exact ⟨by rw [hS.out]; rfl, m + nq, by rw [HW.out, World.drewN_drewN]⟩
theorem cloneE_ok (A : Option Addr) (n c : Nat) (ss : List Lg) (w : World) (h : LR w A n ss) (hn : n ≤ 1000000) :
 Calls Tryz.prog 65 #[.slice A n c] w fun e w' => ∃ A' c', e = .returned (.slice A' n c') ∧ w'.ownsRow w.heap.size 69 2 (.slice A' n c') n (lgC ss) ∧ n ≤ c' ∧ Below w.heap.size w w' := by
 obtain ⟨i0, hi, hz0, hz1, hz2⟩ := info_parts entinfo15; have hq := fun u => Lib.run_eql_slice_nil (P := Tryz.prog) u 60 69 A n c 0 0 Tryz.underlying60; have hl := h.len
 cases A with
 | none =>
   obtain rfl : ss = [] := by
    rcases h.rd with h0 | ⟨_, h0, _⟩
    · have := lgC_length ss; rw [h0] at this; exact List.eq_nil_of_length_eq_zero (by simp at this; omega)
    · cases h0
   obtain rfl : n = 0 := by simpa using hl.symm
   go_enter Tryz.func65, Tryz.ntmps65; go_wp2_with fail; go_ret; exact ⟨none, 0, rfl, World.ownsRow_nil _ _ _ _, Nat.le_refl _, Below.refl _ _⟩
 | some ad =>
   have ho := own_new_s w w.heap.size 2 69 0 [] rfl (Nat.le_refl _) (Nat.zero_le _); have hk := kp_new w (.cells #[] 69); have hr := h.next hk; generalize hw : w.alloc (.cells #[] 69) = w1 at *; have HW := hid hw; have ho' : w1.ownsRow w.heap.size 69 2 (.slice (some ⟨w.heap.size, 0, none⟩) 0 0) 0 [] := ho; clear hw; have hb1 := hk.size; have HL := hid hl; clear hl; go_enter Tryz.func65, Tryz.ntmps65; go_wp2_with (at_builtin; rw [HW.out]; refine wpList_append_rds rfl _ _ _ rfl w.heap.size 69 i0 _ 2 24 Tryz.underlying60 hi hz0 hz1 hz2 rfl (by decide) _ 0 _ rfl ho' w1.heap.size _ _ _ (lgC ss) rfl (by rw [lgC_length, hr.len]) hr.rd (lgC_one _) (by unfold maxLen; omega) (by omega) hb1 ?_; intro v3 w3 hown3 hg3; obtain ⟨A3, c3, rfl, hcap3, _⟩ := own_form_s hown3); go_ret; refine ⟨A3, c3, rfl, ?_, by omega, hk.trans (below_own_s ho' hg3 hb1)⟩; simpa using hown3
section
variable {b : Nat} {n : Nd} {S : Nat → Prop} {w w' : World} {k : Nat}
theorem plog15_ok (h : (PN b n).p S w) (hi : NdI k n) :
 Calls Tryz.prog 45 #[.pointer (some ⟨b, 0, none⟩)] w fun e w' => ∃ A m d, e = .returned (.slice A m d) ∧ m ≤ d ∧ LR w' A m n.lg ∧ Told1 (PN b n) S A w w' := by
 have HT := hid h; obtain ⟨cb, bm, AL, nl, cl, W, col, hx⟩ := h; obtain ⟨_, _, _, c3, _⟩ := hx.tops; have HC := hid (cloneE_ok AL nl cl n.lg w hx.lr (by have := hx.llen; have := hi.lg; omega)); clear hx hi; go_enter Tryz.func45, Tryz.ntmps45; go_wp2_with fail; refine HC.out.mono ?_; rintro e w2 ⟨A, c, rfl, ho, hc, hb⟩; have HF := hid (And.intro ho (And.intro hc hb)); clear HC ho hc hb; go_wp2_with fail; go_ret; obtain ⟨ho, hc, hb⟩ := HF.out; exact ⟨A, nl, c, rfl, hc, LR.of_own ho, ⟨⟨S, Thing.next HT.out hb, fun _ h => .inl h, fun ad e => ⟨(own_blk15 ho ad e).1, (own_blk15 ho ad e).2, fun hS => by have := (PN b n).lt HT.out _ hS; have := (own_blk15 ho ad e).1; omega⟩⟩, Off.of S hb⟩⟩
end
end
end Go.Proofs.YtdhnpmagapbmhaaGreatDoor
