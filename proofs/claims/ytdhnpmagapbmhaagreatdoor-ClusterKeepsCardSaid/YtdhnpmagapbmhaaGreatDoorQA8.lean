/-
  Contracts and plain functions that the law stands on, part 8 of 19.
-/
import Derived.Test.YtdhnpmagapbmhaaGreatDoorQA7
namespace Go.Proofs.YtdhnpmagapbmhaaGreatDoor
/- A Classer whose map of words lies in blocks of which M holds: contracts, as of any Classer. -/
section
open Go.RowKit Go.Maps
set_option maxRecDepth 100000

theorem doSlow_m (b : Nat) (pl : Addr) (x c3 : Value) (w : World) (hpb : ¬ b = pl.block) (h : Cls w b (.int .u32 0) (.int .i32 0) x c3) (hp : w.cell? pl = some (.pointer (some ⟨b, 0, none⟩))) (hpl : pl.block < w.heap.size) :
    Calls Tryz.prog 124 #[.pointer (some ⟨b, 0, none⟩), .func (.func 105) #[] #[.pointer (some pl)]] w fun e w' => e = .returned (.tuple #[]) ∧ ∃ bm, Made w b bm x w' ∧ w.heap.size ≤ bm := by
  have h1 := h.set1 (.int .i32 1)
  have hp1 : (w.setCell ⟨b, 1, none⟩ (.int .i32 1)).cell? pl = some (.pointer (some ⟨b, 0, none⟩)) := (World.cell?_setCell_other _ ⟨b, 1, none⟩ pl _ (fun e => hpb (by rw [← e]))).trans hp
  have hpl1 : pl.block < (w.setCell ⟨b, 1, none⟩ (.int .i32 1)).heap.size := by simpa [World.setCell] using hpl
  have H := Lib.hid h
  have H1 := Lib.hid h1
  have HP := Lib.hid hp1
  have HPL := Lib.hid hpl1
  have hnot : ∀ (x : Bool) (w : World), (Op.unary .not (.bool x)).run Tryz.prog w = .ok (.bool (!x)) w := fun _ _ => rfl
  clear h h1 hp hp1 hpl hpl1
  go_enter_defers Tryz.func124, Tryz.ntmps124
  go_wp2_with (go_at_call 150; refine (take_free ⟨b, 1, none⟩ _ H.out.cells.2.1 (H.out.thaw 1)).mono ?_; rintro e w' ⟨rfl, rfl⟩)
  refine (asked ⟨b, 0, none⟩ 0 _ H1.out.cells.1).mono ?_
  rintro e w2 ⟨rfl, rfl⟩
  go_wp2_with (go_at_call 105; refine (closure_ok b pl _ _ x c3 _ H1.out HP.out HPL.out).mono ?_; rintro e w3 ⟨rfl, bm, w4, hl, rfl⟩)
  have hk := hl.low.block b H1.out.lt
  have g4 := H1.out.keep hk
  have g5 := g4.set3 (.map (some bm))
  refine leaves_cons (f := 152) (args := #[.pointer (some ⟨b, 0, none⟩), .bool true]) (by simp) (by simp [go_sem]) ?_
  refine (mark_deferred ⟨b, 0, none⟩ (.int .u32 0) .returning _ g5.cells.1 (g5.thaw 0)).mono ?_
  rintro e u' w'' ⟨rfl, rfl, rfl⟩
  have g6 : Cls ((w4.setCell ⟨b, 3, none⟩ (.map (some bm))).drew.setCell ⟨b, 0, none⟩ (.int .u32 1)) b (.int .u32 1) (.int .i32 1) x (.map (some bm)) := Cls.set0 (w := (w4.setCell ⟨b, 3, none⟩ (.map (some bm))).drew) g5 _
  refine leaves_cons (f := 151) (args := #[.pointer (some ⟨b, 1, none⟩)]) (by simp [settle]) (by simp [go_sem]) ?_
  refine (give_deferred ⟨b, 1, none⟩ _ _ g6.cells.2.1 (g6.thaw 1)).mono ?_
  rintro e u' w'' ⟨rfl, rfl, rfl⟩
  have hbm : bm ≠ b := by
    have h3 := hl.new
    have h4 := H1.out.lt
    have h5 : (w.setCell ⟨b, 1, none⟩ (.int .i32 1)).drew.heap.size = (w.setCell ⟨b, 1, none⟩ (.int .i32 1)).heap.size := rfl
    omega
  have hm : MapAt ((((w4.setCell ⟨b, 3, none⟩ (.map (some bm))).drew.setCell ⟨b, 0, none⟩ (.int .u32 1))).setCell ⟨b, 1, none⟩ (.int .i32 0)) bm famL := by
    refine hl.map.keep ?_
    rw [Below.heap_setCell _ _ _ _ hbm, Below.heap_setCell _ _ _ _ hbm]
    exact Below.heap_setCell _ _ _ _ hbm
  have hbel : Bel b w ((((w4.setCell ⟨b, 3, none⟩ (.map (some bm))).drew.setCell ⟨b, 0, none⟩ (.int .u32 1))).setCell ⟨b, 1, none⟩ (.int .i32 0)) := by
    have e1 : Bel b w (w.setCell ⟨b, 1, none⟩ (.int .i32 1)) := Bel.setCell (Bel.of b (Below.refl _ w)) _ rfl _
    have e2 : Bel b (w.setCell ⟨b, 1, none⟩ (.int .i32 1)) w4 := Bel.ofDrew hl.low
    have e3 := (e1.trans e2).setCell ⟨b, 3, none⟩ rfl (.map (some bm))
    exact Bel.setCell (Bel.setCell e3.drew ⟨b, 0, none⟩ rfl _) ⟨b, 1, none⟩ rfl _
  have hfin : Made w b bm x ((((w4.setCell ⟨b, 3, none⟩ (.map (some bm))).drew.setCell ⟨b, 0, none⟩ (.int .u32 1))).setCell ⟨b, 1, none⟩ (.int .i32 0)) := ⟨g6.set1 _, hm, hbm, hbel⟩
  have hnew : w.heap.size ≤ bm := by
    have h3 := hl.new
    have h5 : (w.setCell ⟨b, 1, none⟩ (.int .i32 1)).drew.heap.size = w.heap.size := by simp [World.setCell, World.drew]
    omega
  have HF := Lib.hid (And.intro hfin hnew)
  clear hfin hnew hm hbel g6 g5 g4 hk hl
  simp [Leaves, settle, results, Tryz.results124]
  exact ⟨bm, HF.out⟩

/-- a Classer: its words not made yet, or made, in a block of which M holds, as of all that are new -/
def CLm (M : Nat → Prop) (w : World) (b : Nat) : Prop := (∀ k, w.heap.size ≤ k → M k) ∧ ∃ x, Cls w b (.int .u32 0) (.int .i32 0) x (.map none) ∨ ∃ bm, Cls w b (.int .u32 1) (.int .i32 0) x (.map (some bm)) ∧ MapAt w bm famL ∧ bm ≠ b ∧ M bm
section
variable {M : Nat → Prop}
theorem CLm.lt {w : World} {b : Nat} (h : CLm M w b) : b < w.heap.size := by
  obtain ⟨_, x, h | ⟨bm, h, _⟩⟩ := h
  · exact h.lt
  · exact h.lt
theorem CLm.next {w w' : World} {b : Nat} (h : CLm M w b) (hb : Below w.heap.size w w') : CLm M w' b := by
  obtain ⟨hM, x, h | ⟨bm, h, hm, hne⟩⟩ := h
  · exact ⟨fun k hk => hM k (Nat.le_trans hb.size hk), x, .inl (h.next hb)⟩
  · exact ⟨fun k hk => hM k (Nat.le_trans hb.size hk), x, .inr ⟨bm, h.next hb, hm.next hb, hne⟩⟩
theorem do_m (b : Nat) (pl : Addr) (w : World) (hpb : ¬ b = pl.block) (h : CLm M w b) (hp : w.cell? pl = some (.pointer (some ⟨b, 0, none⟩))) (hpl : pl.block < w.heap.size) :
    Calls Tryz.prog 104 #[.pointer (some ⟨b, 0, none⟩), .func (.func 105) #[] #[.pointer (some pl)]] w fun e w' => e = .returned (.tuple #[]) ∧ ∃ bm x, Made w b bm x w' ∧ M bm := by
  have hnot : ∀ (x : Bool) (w : World), (Op.unary .not (.bool x)).run Tryz.prog w = .ok (.bool (!x)) w := fun _ _ => rfl
  obtain ⟨hM, x, h | ⟨bm, h, hm, hne, hmb⟩⟩ := h
  · have hA := Lib.hid (asked ⟨b, 0, none⟩ 0 w h.cells.1)
    have hS := Lib.hid (doSlow_m b pl x _ w hpb h hp hpl)
    have HM0 := Lib.hid hM
    clear h hp hM
    go_enter Tryz.func104, Tryz.ntmps104
    go_wp2_with fail
    refine hA.out.mono ?_
    rintro e w2 ⟨rfl, rfl⟩
    go_wp2_with fail
    refine hS.out.mono ?_
    rintro e w3 ⟨rfl, bm, hm, hnew⟩
    have HM := Lib.hid (And.intro hm (HM0.out bm hnew))
    clear hm hnew
    go_wp2_with fail
    go_end0
    exact ⟨rfl, bm, x, HM.out⟩
  · have hA := Lib.hid (asked ⟨b, 0, none⟩ 1 w h.cells.1)
    have hM1 : Made w b bm x w := ⟨h, hm, hne, Bel.of b (Below.refl _ _)⟩
    have HM := Lib.hid (And.intro hM1 hmb)
    clear h hp hm hM1 hM hmb
    go_enter Tryz.func104, Tryz.ntmps104
    go_wp2_with fail
    refine hA.out.mono ?_
    rintro e w2 ⟨rfl, rfl⟩
    go_wp2_with fail
    go_end0
    exact ⟨rfl, bm, x, HM.out⟩

theorem families_m (b : Nat) (w : World) (h : CLm M w b) :
    Calls Tryz.prog 74 #[.pointer (some ⟨b, 0, none⟩)] w fun e w' => ∃ bm, e = .returned (.map (some bm)) ∧ MapAt w' bm famL ∧ bm ≠ b ∧ CLm M w' b ∧ Bel b w w' := by
  have hmf : ∀ (fn : Fn) (first cap : Array Value) (w : World), (Instr.makeFunc fn first cap).run Tryz.prog w = .ok (.func fn first cap) w := fun _ _ _ _ => rfl
  have hlt := h.lt
  have hM := h.1
  have kw := kp_new w (.cells #[.pointer (some ⟨b, 0, none⟩)] 65)
  have p0 : (w.alloc (.cells #[.pointer (some ⟨b, 0, none⟩)] 65)).cell? ⟨w.heap.size, 0, none⟩ = some (.pointer (some ⟨b, 0, none⟩)) := by simp
  have hD := Lib.hid (do_m b ⟨w.heap.size, 0, none⟩ _ (by simp; omega) (h.next kw) p0 (by simp))
  have hblk : (w.alloc (.cells #[.pointer (some ⟨b, 0, none⟩)] 65)).heap[w.heap.size]? = some (.cells #[.pointer (some ⟨b, 0, none⟩)] 65 (0, 0)) := heap_alloc_new w _
  have HB := Lib.hid hblk
  have HLT := Lib.hid hlt
  have HM0 := Lib.hid hM
  clear hblk hlt h p0 hM
  go_enter Tryz.func74, Tryz.ntmps74
  go_wp2_with fail
  refine hD.out.mono ?_
  rintro e w1 ⟨rfl, bm, x, hm, hmb⟩
  have q0 : w1.cell? ⟨w.heap.size, 0, none⟩ = some (.pointer (some ⟨b, 0, none⟩)) := by
    rw [cell_of_row _ _ 0 _ _ (0, 0) ((hm.bel.block w.heap.size (by simp) (by have := HLT.out; omega)).trans HB.out)]
    rfl
  have q3 := hm.cls.cells.2.2.2
  have HM := Lib.hid (And.intro hm hmb)
  clear hm hmb
  go_wp2_with fail
  go_ret
  exact ⟨bm, rfl, HM.out.1.map, HM.out.1.ne, ⟨fun k hk => HM0.out k (by have h1 := HM.out.1.bel.size; rw [World.size_alloc] at h1; omega), x, .inr ⟨bm, HM.out.1.cls, HM.out.1.map, HM.out.1.ne, HM.out.2⟩⟩, (Bel.of b kw).trans HM.out.1.bel⟩
end
section
variable {M : Nat → Prop}
theorem families_word_m (b : Nat) (ad : Addr) (s : ByteArray) (v : Int) (w : World) (h : CLm M w b) (hc : w.cell? ⟨ad.block, ad.off + 1, none⟩ = some (.string s)) (hlt : ad.block < w.heap.size) (hne : ad.block ≠ b) (hs : s.size ≤ 1000000) (hv : famF s.data.toList = v) :
    Calls Tryz.prog 74 #[.pointer (some ⟨b, 0, none⟩)] w fun e w' => ∃ bm, e = .returned (.map (some bm)) ∧ w'.cell? ⟨ad.block, ad.off + 1, none⟩ = some (.string s) ∧
      (Instr.lookup 116 (.map (some bm)) (.string s) false).run Tryz.prog w' = .ok (.int .i64 v) w' ∧ Hid (CLm M w' b ∧ Bel b w w') := by
  refine (families_m b w h).mono ?_
  rintro e w' ⟨bm, rfl, hm, _, hc', hb'⟩
  obtain ⟨cc, hrun, hat, _⟩ := World.ownsMap.lookup_int hm sKey Tryz.underlying116 Tryz.underlying3 (sZero _) (Go.WideMaps.keyOf_string_mk Tryz.underlying9 (s := s) (by unfold maxLen; omega))
  obtain rfl : cc = v := (fam_of hat).trans hv
  have e : w'.cell? ⟨ad.block, ad.off + 1, none⟩ = w.cell? ⟨ad.block, ad.off + 1, none⟩ := World.cell?_of_block (hb'.block ad.block hlt hne)
  exact ⟨bm, rfl, e.trans hc, hrun, Lib.hid ⟨hc', hb'⟩⟩

def ExplTom (M : Nat → Prop) (b : Nat) (r : List Tk) : Prop := ∀ (A : Option Addr) (n c : Nat) (w : World), TQ b w A n c r → CLm M w b →
  Calls Tryz.prog 75 #[.pointer (some ⟨b, 0, none⟩), .slice A n c] w fun e w' => e = .returned (.int .i64 (exF (saysT r) (classF ((saysT r).drop 1)))) ∧ CLm M w' b ∧ Bel b w w'

theorem classOf_word_m (b : Nat) (A : Option Addr) (n c : Nat) (t : Tk) (r : List Tk) (w : World) (hq : TQ b w A n c (t :: r)) (hc : CLm M w b) (h1 : t.k = 1) (hs : (saysT (t :: r)).any stopF = false) (hx : ExplTom M b r) :
    Calls Tryz.prog 48 #[.pointer (some ⟨b, 0, none⟩), .slice A n c] w fun e w' => e = .returned (.int .i64 (classF (saysT (t :: r)))) ∧ CLm M w' b ∧ Bel b w w' := by
  have hF := classF_word (t := t.says) (r := saysT r) h1 hs
  have hF : classF (saysT (t :: r)) = famB (famF t.t.data.toList) (saysT r) (exF (saysT r) (classF ((saysT r).drop 1))) := hF
  rw [hF]
  clear hF
  have hcap := hq.cap
  have HN : Hid (n = r.length + 1) := Lib.hid (by have := hq.tr.len; simpa using this.symm)
  have hn0 : 0 < n := by have := HN.out; omega
  have hnz : ((n : Int) == 0) = false := by simp; omega
  have hC := Lib.hid (containsFunc_ok _ _ stopPred (fun _ _ => rfl) A n c (t :: r) w hq.tr hq.few)
  rw [hs] at hC
  clear hs
  have HS := Lib.hid (hq.short t (by simp))
  obtain ⟨ad, rfl, hlt, hcc⟩ := hq.tr.head
  obtain ⟨c0, c1⟩ := hcc _ (Below.refl _ _)
  have hof := hq.off ad rfl
  have HR := Lib.hid hq.rest
  obtain ⟨k, s⟩ := t
  simp only at h1 c0 c1 HS
  subst h1
  have HC1 := Lib.hid c1
  have HOF := Lib.hid hof
  have HLT := Lib.hid hlt
  have HCL := Lib.hid hc
  clear hcc hq hc hof hlt
  obtain ⟨v, hv⟩ : ∃ v, famF s.data.toList = v := ⟨_, rfl⟩
  rw [hv]
  obtain ⟨R, hRR⟩ : ∃ R, R = famB v (saysT r) (exF (saysT r) (classF ((saysT r).drop 1))) := ⟨_, rfl⟩
  rw [← hRR]
  have HRR := Lib.hid hRR
  have HV := Lib.hid hv
  clear hv hRR
  go_enter Tryz.func48, Tryz.ntmps48
  go_wp2_with fail
  refine hC.out.mono ?_
  rintro e w1 ⟨rfl, k1⟩
  go_upto_region 4 with fail
  generalize (if c = 1 then some ad else some (⟨ad.block, ad.off + 2, none⟩ : Addr)) = A1 at *
  have kd : Below w1.heap.size w1 w1.drew := kp_drewN w1 1
  have HCD := Lib.hid ((HCL.out.next k1).next kd)
  have d1 : w1.cell? ⟨ad.block, ad.off + 1, none⟩ = some (.string s) := (k1.cell (p := ⟨ad.block, ad.off + 1, none⟩) HLT.out).trans HC1.out
  have d1' : w1.drew.cell? ⟨ad.block, ad.off + 1, none⟩ = some (.string s) := d1
  go_cut [28] from 22 (fun s28 wx => s28 = .int .i64 v ∧ CLm M wx b ∧ Bel b w wx)
  case first =>
    go_region_with (go_at_call 74; refine (families_word_m b ad s v _ HCD.out d1' (Nat.lt_of_lt_of_le HLT.out k1.size) HOF.out HS.out HV.out).mono ?_; rintro e w' ⟨bm, rfl, d2, hrun, HC'⟩)
    all_goals (go_wp2_with fail; go_meet; exact ⟨rfl, HC'.out.1, (Bel.of b k1).trans ((Bel.of b kd).trans HC'.out.2)⟩)
  case rest =>
  obtain ⟨rfl, hcl, hbl⟩ := hcut
  have hR := HR.out.bel hbl
  clear hC HS HC1 HCL HCD d1 d1' c0 c1
  by_cases h1 : v = 1
  · subst h1
    have HG : Hid (R = 1) := Lib.hid HRR.out
    go_wp2_with fail
    go_ret
    exact ⟨by rw [HG.out]; rfl, hcl, hbl⟩
  by_cases h2 : v = 2
  · subst h2
    have hX := Lib.hid (hx A1 (n - 1) (c - 1) wc hR hcl)
    have HG : Hid (R = exF (saysT r) (classF ((saysT r).drop 1))) := Lib.hid HRR.out
    generalize exF (saysT r) (classF ((saysT r).drop 1)) = x at *
    go_wp2_with fail
    refine hX.out.mono ?_
    rintro e w2 ⟨rfl, hc2, hb2⟩
    go_wp2_with fail
    go_ret
    exact ⟨by rw [HG.out]; rfl, hc2, hbl.trans hb2⟩
  by_cases h3 : v = 3
  · subst h3
    have HG : Hid (R = 2) := Lib.hid HRR.out
    go_wp2_with fail
    go_ret
    exact ⟨by rw [HG.out]; rfl, hcl, hbl⟩
  by_cases h4 : v = 4
  · subst h4
    have hX := Lib.hid (selected_ok A1 (n - 1) (c - 1) r true wc hR.tr hR.few)
    have HG : Hid (R = selF (saysT r) true) := Lib.hid HRR.out
    generalize selF (saysT r) true = x at *
    go_wp2_with fail
    refine hX.out.mono ?_
    rintro e w2 ⟨rfl, k2⟩
    go_wp2_with fail
    go_ret
    exact ⟨by rw [HG.out]; rfl, hcl.next k2, hbl.trans (Bel.of b k2)⟩
  by_cases h5 : v = 5
  · subst h5
    have kb := kp_new wc (.cells #[.string ⟨#[83, 69, 76, 69, 67, 84]⟩] 9)
    have hS := SR.new wc 9 [⟨#[83, 69, 76, 69, 67, 84]⟩]
    have hB := Lib.hid (hasWord_ok A1 (n - 1) (c - 1) r _ 1 1 _ _ (hR.tr.next kb) hS hR.few (by decide))
    have hE : txs [⟨#[83, 69, 76, 69, 67, 84]⟩] = [wSELECT] := rfl
    rw [hE] at hB
    have HG : Hid (R = selF (saysT r) (hasF (saysT r) [wSELECT])) := Lib.hid HRR.out
    clear hE hS
    generalize hasF (saysT r) [wSELECT] = x at *
    go_wp2_with fail
    refine hB.out.mono ?_
    rintro e w2 ⟨rfl, k2⟩
    have k3 := kp_trans kb k2
    have hX := Lib.hid (selected_ok A1 (n - 1) (c - 1) r x w2 (hR.tr.next k3) hR.few)
    clear hB
    go_wp2_with fail
    refine hX.out.mono ?_
    rintro e w3 ⟨rfl, k4⟩
    go_wp2_with fail
    go_ret
    exact ⟨by rw [HG.out]; rfl, hcl.next (kp_trans k3 k4), hbl.trans (Bel.of b (kp_trans k3 k4))⟩
  by_cases h6 : v = 6
  · subst h6
    have kb := kp_new wc (.cells #[.string ⟨#[87, 79, 82, 75]⟩, .string ⟨#[84, 82, 65, 78, 83, 65, 67, 84, 73, 79, 78]⟩] 9)
    have hS := SR.new wc 9 [⟨#[87, 79, 82, 75]⟩, ⟨#[84, 82, 65, 78, 83, 65, 67, 84, 73, 79, 78]⟩]
    have hB := Lib.hid (isBare_ok A1 (n - 1) (c - 1) r _ 2 2 _ _ (hR.tr.next kb) hS (by decide) hR.few)
    have hE : txs [⟨#[87, 79, 82, 75]⟩, ⟨#[84, 82, 65, 78, 83, 65, 67, 84, 73, 79, 78]⟩] = [wWORK, wTRANSACTION] := rfl
    rw [hE] at hB
    have HG : Hid (R = ifF 3 (bareF (saysT r) [wWORK, wTRANSACTION])) := Lib.hid HRR.out
    clear hE hS
    generalize bareF (saysT r) [wWORK, wTRANSACTION] = x at *
    go_wp2_with fail
    refine hB.out.mono ?_
    rintro e w2 ⟨rfl, k2⟩
    have k3 := kp_trans kb k2
    clear hB
    go_wp2_with fail
    refine (classIf_ok 3 (x) w2).mono ?_
    rintro e w3 ⟨rfl, rfl⟩
    go_wp2_with fail
    go_ret
    exact ⟨by rw [HG.out]; rfl, hcl.next k3, hbl.trans (Bel.of b k3)⟩
  by_cases h7 : v = 7
  · subst h7
    have kb := kp_new wc (.cells #[.string ⟨#[84, 82, 65, 78, 83, 65, 67, 84, 73, 79, 78]⟩] 9)
    have hS := SR.new wc 9 [⟨#[84, 82, 65, 78, 83, 65, 67, 84, 73, 79, 78]⟩]
    have hB := Lib.hid (beginsWith_ok A1 (n - 1) (c - 1) r _ 1 1 _ _ (hR.tr.next kb) hS (by decide))
    have hE : txs [⟨#[84, 82, 65, 78, 83, 65, 67, 84, 73, 79, 78]⟩] = [wTRANSACTION] := rfl
    rw [hE] at hB
    have HG : Hid (R = ifF 3 (headF (saysT r) [wTRANSACTION])) := Lib.hid HRR.out
    clear hE hS
    generalize headF (saysT r) [wTRANSACTION] = x at *
    go_wp2_with fail
    refine hB.out.mono ?_
    rintro e w2 ⟨rfl, k2⟩
    have k3 := kp_trans kb k2
    clear hB
    go_wp2_with fail
    refine (classIf_ok 3 (x) w2).mono ?_
    rintro e w3 ⟨rfl, rfl⟩
    go_wp2_with fail
    go_ret
    exact ⟨by rw [HG.out]; rfl, hcl.next k3, hbl.trans (Bel.of b k3)⟩
  by_cases h8 : v = 8
  · subst h8
    have kb := kp_new wc (.cells #[.string ⟨#[87, 79, 82, 75]⟩] 9)
    have hS := SR.new wc 9 [⟨#[87, 79, 82, 75]⟩]
    have hB := Lib.hid (isBare_ok A1 (n - 1) (c - 1) r _ 1 1 _ _ (hR.tr.next kb) hS (by decide) hR.few)
    have hE : txs [⟨#[87, 79, 82, 75]⟩] = [wWORK] := rfl
    rw [hE] at hB
    have HG : Hid (R = ifF 4 (bareF (saysT r) [wWORK])) := Lib.hid HRR.out
    clear hE hS
    generalize bareF (saysT r) [wWORK] = x at *
    go_wp2_with fail
    refine hB.out.mono ?_
    rintro e w2 ⟨rfl, k2⟩
    have k3 := kp_trans kb k2
    clear hB
    go_wp2_with fail
    refine (classIf_ok 4 (x) w2).mono ?_
    rintro e w3 ⟨rfl, rfl⟩
    go_wp2_with fail
    go_ret
    exact ⟨by rw [HG.out]; rfl, hcl.next k3, hbl.trans (Bel.of b k3)⟩
  by_cases h9 : v = 9
  · subst h9
    have kb := kp_new wc (.cells #[.string ⟨#[87, 79, 82, 75]⟩] 9)
    have hS := SR.new wc 9 [⟨#[87, 79, 82, 75]⟩]
    have hB := Lib.hid (isBare_ok A1 (n - 1) (c - 1) r _ 1 1 _ _ (hR.tr.next kb) hS (by decide) hR.few)
    have hE : txs [⟨#[87, 79, 82, 75]⟩] = [wWORK] := rfl
    rw [hE] at hB
    have HG : Hid (R = ifF 5 (bareF (saysT r) [wWORK])) := Lib.hid HRR.out
    clear hE hS
    generalize bareF (saysT r) [wWORK] = x at *
    go_wp2_with fail
    refine hB.out.mono ?_
    rintro e w2 ⟨rfl, k2⟩
    have k3 := kp_trans kb k2
    clear hB
    go_wp2_with fail
    refine (classIf_ok 5 (x) w2).mono ?_
    rintro e w3 ⟨rfl, rfl⟩
    go_wp2_with fail
    go_ret
    exact ⟨by rw [HG.out]; rfl, hcl.next k3, hbl.trans (Bel.of b k3)⟩
  by_cases h10 : v = 10
  · subst h10
    have kb := kp_new wc (.cells #[.string ⟨#[65, 85, 84, 79, 67, 79, 77, 77, 73, 84]⟩, .string ⟨#[71, 76, 79, 66, 65, 76]⟩, .string ⟨#[80, 69, 82, 83, 73, 83, 84]⟩] 9)
    have hS := SR.new wc 9 [⟨#[65, 85, 84, 79, 67, 79, 77, 77, 73, 84]⟩, ⟨#[71, 76, 79, 66, 65, 76]⟩, ⟨#[80, 69, 82, 83, 73, 83, 84]⟩]
    have hB := Lib.hid (beginsWith_ok A1 (n - 1) (c - 1) r _ 3 3 _ _ (hR.tr.next kb) hS (by decide))
    have hE : txs [⟨#[65, 85, 84, 79, 67, 79, 77, 77, 73, 84]⟩, ⟨#[71, 76, 79, 66, 65, 76]⟩, ⟨#[80, 69, 82, 83, 73, 83, 84]⟩] = [wAUTOCOMMIT, wGLOBAL, wPERSIST] := rfl
    rw [hE] at hB
    have HG : Hid (R = ifF 6 (!headF (saysT r) [wAUTOCOMMIT, wGLOBAL, wPERSIST])) := Lib.hid HRR.out
    clear hE hS
    generalize headF (saysT r) [wAUTOCOMMIT, wGLOBAL, wPERSIST] = x at *
    have hnot : ∀ (x : Bool) (w : World), (Op.unary .not (.bool x)).run Tryz.prog w = .ok (.bool (!x)) w := fun _ _ => rfl
    go_wp2_with fail
    refine hB.out.mono ?_
    rintro e w2 ⟨rfl, k2⟩
    have k3 := kp_trans kb k2
    clear hB
    go_wp2_with fail
    refine (classIf_ok 6 (!x) w2).mono ?_
    rintro e w3 ⟨rfl, rfl⟩
    go_wp2_with fail
    go_ret
    exact ⟨by rw [HG.out]; rfl, hcl.next k3, hbl.trans (Bel.of b k3)⟩
  have HG : Hid (R = 7) := Lib.hid (by
    rw [HRR.out]
    unfold famB
    rw [if_neg h1, if_neg h2, if_neg h3, if_neg h4, if_neg h5, if_neg h6, if_neg h7, if_neg h8, if_neg h9, if_neg h10])
  go_wp2_with fail
  go_ret
  exact ⟨by rw [HG.out]; rfl, hcl, hbl⟩

def ClassTom (M : Nat → Prop) (b : Nat) (r : List Tk) : Prop := ∀ (A : Option Addr) (n c : Nat) (w : World), TQ b w A n c r → CLm M w b →
  Calls Tryz.prog 48 #[.pointer (some ⟨b, 0, none⟩), .slice A n c] w fun e w' => e = .returned (.int .i64 (classF (saysT r))) ∧ CLm M w' b ∧ Bel b w w'

theorem explained_m (b : Nat) (r : List Tk) (hx : ∀ u r', r = u :: r' → ClassTom M b r') : ExplTom M b r := by
  intro A n c w hq hc
  have kb := kp_new w (.cells #[.string ⟨#[65, 78, 65, 76, 89, 90, 69]⟩, .string ⟨#[65, 78, 65, 76, 89, 83, 69]⟩] 9)
  have hS := SR.new w 9 [⟨#[65, 78, 65, 76, 89, 90, 69]⟩, ⟨#[65, 78, 65, 76, 89, 83, 69]⟩]
  have hB := Lib.hid (beginsWith_ok A n c r _ 2 2 _ _ (hq.tr.next kb) hS (by decide))
  have hE : txs [⟨#[65, 78, 65, 76, 89, 90, 69]⟩, ⟨#[65, 78, 65, 76, 89, 83, 69]⟩] = [wANALYZE, wANALYSE] := rfl
  have hnot : ∀ (x : Bool) (w : World), (Op.unary .not (.bool x)).run Tryz.prog w = .ok (.bool (!x)) w := fun _ _ => rfl
  rw [hE] at hB
  clear hS hE
  cases hh : headF (saysT r) [wANALYZE, wANALYSE] with
  | false =>
    have HF : Hid (exF (saysT r) (classF ((saysT r).drop 1)) = 1) := Lib.hid (by unfold exF; rw [hh]; rfl)
    rw [hh] at hB
    clear hh
    go_enter Tryz.func75, Tryz.ntmps75
    go_wp2_with fail
    refine hB.out.mono ?_
    rintro e w1 ⟨rfl, k1⟩
    go_wp2_with fail
    go_ret
    exact ⟨by rw [HF.out]; rfl, hc.next (kp_trans kb k1), Bel.of b (kp_trans kb k1)⟩
  | true =>
    cases r with
    | nil => cases hh
    | cons u r' =>
      have hcap := hq.cap
      have hn : 0 < n := by have := hq.tr.len; simp at this; omega
      obtain ⟨ad, rfl, _, _⟩ := hq.tr.head
      have hC := hx u r' rfl
      have HR := Lib.hid hq.rest
      have HF : Hid (exF (saysT (u :: r')) (classF ((saysT (u :: r')).drop 1)) = if classF (saysT r') = 2 then 2 else if classF (saysT r') = 7 then 7 else 1) := Lib.hid (by unfold exF; rw [hh]; rfl)
      generalize exF (saysT (u :: r')) (classF ((saysT (u :: r')).drop 1)) = R at *
      rw [hh] at hB
      unfold ClassTom at hC
      generalize classF (saysT r') = x at *
      have HC := Lib.hid hC
      have HCL := Lib.hid hc
      clear hh hq hx hc hC
      by_cases hc1 : c = 1
      · subst hc1
        obtain rfl : n = 1 := by omega
        have HR2 : Hid (TQ b w (some ad) 0 0 r') := Lib.hid (by have := HR.out; rwa [if_pos rfl] at this)
        clear HR
        go_enter Tryz.func75, Tryz.ntmps75
        go_wp2_with fail
        refine hB.out.mono ?_
        rintro e w1 ⟨rfl, k1⟩
        go_wp2_with fail
        have k2 := kp_trans kb k1
        have hq1 := HR2.out.next k2
        have hc1 := HCL.out.next k2
        have hCC := HC.out _ _ _ w1 hq1 hc1
        clear hq1 hc1 HC HR2 HCL hB
        refine Calls.mono hCC ?_
        rintro e w2 ⟨rfl, hc2, hb2⟩
        have hb3 := (Bel.of b k2).trans hb2
        by_cases h2 : x = 2
        · subst h2
          have HG : Hid (R = 2) := Lib.hid HF.out
          go_wp2_with fail
          go_ret
          exact ⟨by rw [HG.out]; rfl, hc2, hb3⟩
        by_cases h7 : x = 7
        · subst h7
          have HG : Hid (R = 7) := Lib.hid HF.out
          go_wp2_with fail
          go_ret
          exact ⟨by rw [HG.out]; rfl, hc2, hb3⟩
        have HG : Hid (R = 1) := Lib.hid (by rw [HF.out, if_neg h2, if_neg h7])
        go_wp2_with fail
        go_ret
        exact ⟨by rw [HG.out]; rfl, hc2, hb3⟩
      · have HR2 : Hid (TQ b w (some ⟨ad.block, ad.off + 2, none⟩) (n - 1) (c - 1) r') := Lib.hid (by have := HR.out; rwa [if_neg hc1] at this)
        clear HR
        go_enter Tryz.func75, Tryz.ntmps75
        go_wp2_with fail
        refine hB.out.mono ?_
        rintro e w1 ⟨rfl, k1⟩
        go_wp2_with fail
        have k2 := kp_trans kb k1
        have hq1 := HR2.out.next k2
        have hc1 := HCL.out.next k2
        have hCC := HC.out _ _ _ w1 hq1 hc1
        clear hq1 hc1 HC HR2 HCL hB
        refine Calls.mono hCC ?_
        rintro e w2 ⟨rfl, hc2, hb2⟩
        have hb3 := (Bel.of b k2).trans hb2
        by_cases h2 : x = 2
        · subst h2
          have HG : Hid (R = 2) := Lib.hid HF.out
          go_wp2_with fail
          go_ret
          exact ⟨by rw [HG.out]; rfl, hc2, hb3⟩
        by_cases h7 : x = 7
        · subst h7
          have HG : Hid (R = 7) := Lib.hid HF.out
          go_wp2_with fail
          go_ret
          exact ⟨by rw [HG.out]; rfl, hc2, hb3⟩
        have HG : Hid (R = 1) := Lib.hid (by rw [HF.out, if_neg h2, if_neg h7])
        go_wp2_with fail
        go_ret
        exact ⟨by rw [HG.out]; rfl, hc2, hb3⟩

theorem classOf_nil_m (b : Nat) : ClassTom M b [] := by
  intro A n c w hq hc
  obtain rfl : 0 = n := hq.tr.len
  have HF : Hid (classF (saysT []) = 7) := Lib.hid classF_nil
  go_enter Tryz.func48, Tryz.ntmps48
  go_wp2_with fail
  go_ret
  exact ⟨by rw [HF.out]; rfl, hc, Bel.of b (Below.refl _ _)⟩

theorem classOf_no_m (b : Nat) (t : Tk) (r : List Tk) (h : t.k ≠ 1) : ClassTom M b (t :: r) := by
  intro A n c w hq hc
  have HF : Hid (classF (saysT (t :: r)) = 7) := Lib.hid (classF_no (t := t.says) (r := saysT r) (.inl h))
  have hn : 0 < n := by have := hq.tr.len; simp at this; omega
  have hnz : ((n : Int) == 0) = false := by simp; omega
  obtain ⟨ad, rfl, _, hcc⟩ := hq.tr.head
  obtain ⟨c0, c1⟩ := hcc _ (Below.refl _ _)
  have h1 : (t.k != 1) = true := by simpa using h
  clear hcc
  go_enter Tryz.func48, Tryz.ntmps48
  go_wp2_with fail
  go_ret
  exact ⟨by rw [HF.out]; rfl, hc, Bel.of b (Below.refl _ _)⟩

theorem classOf_stop_m (b : Nat) (t : Tk) (r : List Tk) (h : t.k = 1) (hs : (saysT (t :: r)).any stopF = true) : ClassTom M b (t :: r) := by
  intro A n c w hq hc
  have HF : Hid (classF (saysT (t :: r)) = 7) := Lib.hid (classF_no (t := t.says) (r := saysT r) (.inr hs))
  have hn : 0 < n := by have := hq.tr.len; simp at this; omega
  have hnz : ((n : Int) == 0) = false := by simp; omega
  have hC := Lib.hid (containsFunc_ok _ _ stopPred (fun _ _ => rfl) A n c (t :: r) w hq.tr hq.few)
  rw [hs] at hC
  clear hs
  obtain ⟨ad, rfl, _, hcc⟩ := hq.tr.head
  obtain ⟨c0, c1⟩ := hcc _ (Below.refl _ _)
  obtain ⟨k, s⟩ := t
  simp only at h c0 c1
  subst h
  clear hcc
  go_enter Tryz.func48, Tryz.ntmps48
  go_wp2_with fail
  refine hC.out.mono ?_
  rintro e w1 ⟨rfl, k1⟩
  go_wp2_with fail
  go_ret
  exact ⟨by rw [HF.out]; rfl, hc.next k1, Bel.of b k1⟩

theorem classOf_m (b : Nat) : ∀ (N : Nat) (ts : List Tk), ts.length ≤ N → ClassTom M b ts := by
  intro N
  induction N with
  | zero =>
    intro ts hl
    obtain rfl : ts = [] := List.eq_nil_of_length_eq_zero (by omega)
    exact classOf_nil_m b
  | succ N ih =>
    intro ts hl
    cases ts with
    | nil => exact classOf_nil_m b
    | cons t r =>
      by_cases h : t.k = 1
      · cases hs : (saysT (t :: r)).any stopF with
        | true => exact classOf_stop_m b t r h hs
        | false =>
          intro A n c w hq hc
          exact classOf_word_m b A n c t r w hq hc h hs (explained_m b r fun u r' e => ih r' (by subst e; simp at hl; omega))
      · exact classOf_no_m b t r h

theorem class_m (s : ByteArray) (b : Nat) (w : World) (hs : s.size ≤ maxLen) (hL : Lw w) (hc : CLm M w b) :
    Calls Tryz.prog 26 #[.pointer (some ⟨b, 0, none⟩), .string s] w fun e w' => e = .returned (.int .i64 (classA s.data.toList)) ∧ CLm M w' b ∧ Bel b w w' := by
  have hlex := lex_ok s w hs hL
  unfold LexTo at hlex
  have hlen := lexA_len s.data.toList
  have hok := lexA_ok s.data.toList
  have HX := Lib.hid hlex
  have hA : classA s.data.toList = if (lexA s.data.toList).2 = 0 then classF (bodyF (lexA s.data.toList).1) else 0 := rfl
  generalize lexA s.data.toList = LA at *
  have HA := Lib.hid hA
  have HLen := Lib.hid hlen
  have HOk := Lib.hid hok
  have HCL := Lib.hid hc
  clear hlex hA hlen hok hc
  go_enter Tryz.func26, Tryz.ntmps26
  go_wp2_with fail
  refine HX.out.mono ?_
  rintro e w1 ⟨A, n, c, er, ts, rfl, ho, rfl, k1⟩
  clear HX
  by_cases he : er = 0
  · subst he
    have HG : Hid (classA s.data.toList = classF (bodyF (saysT ts))) := Lib.hid HA.out
    have hn : n ≤ 200 := by rw [← ho.len, ← saysT_length]; exact HLen.out
    have hcap := ho.cap
    have hW := Lib.hid (withoutHints_ok A n c ts w1 w.heap.size ho k1.size (by omega))
    have HO := Lib.hid ho
    have HLT := Lib.hid HCL.out.lt
    have HFr := Lib.hid ho.fresh
    have HS := Lib.hid HOk.out
    have HC1 := Lib.hid (HCL.out.next k1)
    clear HA HLen HOk ho
    go_wp2_with fail
    refine hW.out.mono ?_
    rintro e w2 ⟨us, k, rfl, hr, hk, hus, k2⟩
    have hE := Lib.hid (withoutEnd_ok A k c us w2 hr (by omega) (by omega))
    clear hW
    go_wp2_with fail
    refine hE.out.mono ?_
    rintro e w3 ⟨j, rfl, hj, hend, k3⟩
    have kk : Below w.heap.size w w3 := (k1.trans k2).trans (k3.mono (k1.trans k2).size)
    have hq : TQ b w3 A j c (us.take j) := by
      refine ⟨(hr.next k3).front hj, fun ad e => ?_, by omega, by omega, ?_⟩
      · have h1 := HFr.out ad e
        have h2 := HLT.out
        omega
      · have hsub : ∀ t ∈ saysT us, t.2.length ≤ 200 := fun t ht => by
          rw [hus.out] at ht
          exact (HS.out t (List.mem_filter.1 ht).1).1
        intro t ht
        have := saysT_short hsub t (List.mem_of_mem_take ht)
        omega
    have hcl3 : CLm M w3 b := HCL.out.next kk
    have hbody : classF (bodyF (saysT ts)) = classF (saysT (us.take j)) := by
      unfold bodyF
      rw [← hus.out, hend]
    have HB := Lib.hid hbody
    have HCc := Lib.hid (classOf_m b _ (us.take j) (Nat.le_refl _) A j c w3 hq hcl3)
    clear hE hq hcl3 hbody hend
    go_wp2_with fail
    refine HCc.out.mono ?_
    rintro e w4 ⟨rfl, hc4, hb4⟩
    go_wp2_with fail
    go_ret
    exact ⟨by rw [HG.out, HB.out]; rfl, hc4, (Bel.of b kk).trans hb4⟩
  · have HG : Hid (classA s.data.toList = 0) := Lib.hid (by rw [HA.out, if_neg he])
    clear HA
    go_wp2_with fail
    go_ret
    exact ⟨by rw [HG.out]; rfl, HCL.out.next k1, Bel.of b k1⟩
end
end

/- Layer 15: what the laws' walks share: a Classer as a thing; calls on three nodes beside another thing; rows of entries, cut. -/
section
open Go.RowKit
set_option maxRecDepth 100000

theorem P3.kept {w w' : World} {g : Nat} {bs : Nat → Nat} (h : P3 w (some ⟨g, 0, none⟩) bs) (hz : w.heap.size ≤ w'.heap.size) (hk : w'.heap[g]? = w.heap[g]?) : P3 w' (some ⟨g, 0, none⟩) bs := ⟨h.rd.offR hz fun ad e => by injection e with e; subst e; exact hk⟩
theorem lgC_take : ∀ (rs : List Lg) (k : Nat), lgC (rs.take k) = (lgC rs).take (k * 2)
  | _, 0 => by simp [lgC]
  | [], k + 1 => by simp [lgC]
  | r :: rs, k + 1 => by
    have := lgC_take rs k
    have e1 : (k + 1) * 2 = k * 2 + 2 := by omega
    rw [List.take_succ_cons]
    simp only [lgC, List.flatMap_cons] at this ⊢
    rw [this, e1]
    simp
theorem lgC_drop : ∀ (rs : List Lg) (k : Nat), lgC (rs.drop k) = (lgC rs).drop (k * 2)
  | _, 0 => by simp [lgC]
  | [], k + 1 => by simp [lgC]
  | r :: rs, k + 1 => by
    have := lgC_drop rs k
    have e1 : (k + 1) * 2 = k * 2 + 2 := by omega
    rw [List.drop_succ_cons]
    simp only [lgC, List.flatMap_cons] at this ⊢
    rw [this, e1]
    simp
section
variable {w : World} {A : Option Addr} {n c : Nat} {ts : List Lg}
theorem LR.cut0 (h : LR w A n ts) (t : TypeId) (ht : Tryz.prog.underlying t = some (.slice (Tryz.prog.elem t))) (hz : (Tryz.prog.info? (Tryz.prog.elem t)).map (·.size) = some 2) {j : Nat} (hj : j ≤ n) (hc : n ≤ c) :
    ∃ A', (∀ u, (Instr.slice t (.slice A n c) none (some (.int .i64 (j : Int))) none).run Tryz.prog u = .ok (.slice A' j c) u) ∧ LR w A' j (ts.take j) := by
  obtain ⟨A', h1, h2⟩ := cut2_0 (j := j) h.rd Tryz.prog t ht hz j rfl hj hc
  exact ⟨A', h1, by rw [List.length_take]; have := h.len; omega, by rw [lgC_take]; exact h2⟩
theorem LR.cut1 (h : LR w A n ts) (t : TypeId) (ht : Tryz.prog.underlying t = some (.slice (Tryz.prog.elem t))) (hz : (Tryz.prog.info? (Tryz.prog.elem t)).map (·.size) = some 2) {i : Nat} (hi : i ≤ n) (hc : n ≤ c) :
    ∃ A', (∀ u, (Instr.slice t (.slice A n c) (some (.int .i64 (i : Int))) none none).run Tryz.prog u = .ok (.slice A' (n - i) (c - i)) u) ∧ LR w A' (n - i) (ts.drop i) := by
  obtain ⟨A', h1, h2⟩ := cut2_1 (i := i) (by rw [lgC_length, h.len]) h.rd Tryz.prog t ht hz i rfl hi hc
  exact ⟨A', h1, by rw [List.length_drop]; have := h.len; omega, by rw [lgC_drop]; exact h2⟩
end
/-- nothing, as a thing -/
def T0 : Thing where
  p := fun S _ => ∀ k, ¬ S k
  keep := fun h _ _ => h
  lt := fun h k hk => (h k hk).elim
theorem T0.none (w : World) : T0.p noneB w := fun _ h => h
/-- a Classer as a thing -/
def CT (cb : Nat) : Thing where
  p := fun S w => S cb ∧ (∀ k, S k → k < w.heap.size) ∧ ∃ x, Cls w cb (.int .u32 0) (.int .i32 0) x (.map none) ∨ ∃ bm, Cls w cb (.int .u32 1) (.int .i32 0) x (.map (some bm)) ∧ MapAt w bm famL ∧ bm ≠ cb ∧ S bm
  keep := fun ⟨h1, h2, x, h3⟩ hk hz => ⟨h1, fun k hk2 => Nat.lt_of_lt_of_le (h2 k hk2) hz, x, h3.imp (fun h => h.keep (hk _ h1)) fun ⟨bm, a, b, c, d⟩ => ⟨bm, a.keep (hk _ h1), b.keep (hk bm d), c, d⟩⟩
  lt := fun h => h.2.1
theorem newCT_ok (w : World) : Calls Tryz.prog 25 #[] w fun e w' => e = .returned (.pointer (some ⟨w.heap.size, 0, none⟩)) ∧ (CT w.heap.size).p (fun k => k = w.heap.size) w' ∧ Below w.heap.size w w' := by
  go_enter Tryz.func25, Tryz.ntmps25
  go_wp2
  go_ret
  exact ⟨rfl, ⟨rfl, fun k hk => by subst hk; simp, _, .inl (heap_alloc_new w _)⟩, kp_new _ _⟩
section
variable {w0 w : World} {X Y : Thing} {N : Nat → Prop}
theorem Duo.class {cb : Nat} (h : Duo w0 X (CT cb) N w) (hL : Lw w0) (s : ByteArray) (hs : s.size ≤ maxLen) :
    Calls Tryz.prog 26 #[.pointer (some ⟨cb, 0, none⟩), .string s] w fun e w' => e = .returned (.int .i64 (clsT s)) ∧ Duo w0 X (CT cb) N w' ∧ (∀ k, N k → w'.heap[k]? = w.heap[k]?) ∧ w.heap.size ≤ w'.heap.size := by
  obtain ⟨⟨S, T, h1, h2, h3, h4⟩, h5, h6⟩ := h
  obtain ⟨t1, t2, x, t3⟩ := h2
  have hlt := X.lt h1
  have hz := h5.size
  have hcb := h4 cb (.inr t1)
  have hcS : ¬ S cb := fun e => h3 cb e t1
  have hc : CLm (fun k => ¬ S k ∧ ¬ N k ∧ w0.heap.size ≤ k) w cb := ⟨fun k hk => ⟨fun e => by have := hlt k e; omega, fun e => by have := h6 k e; omega, by omega⟩, x, t3.imp id fun ⟨bm, a, b, c, d⟩ => ⟨bm, a, b, c, fun e => h3 bm e d, (h4 bm (.inr d)).2, (h4 bm (.inr d)).1⟩⟩
  refine (class_m s cb w hs (hL.next h5) hc).mono ?_
  rintro e w' ⟨rfl, ⟨_, x', hc'⟩, hb⟩
  have hwk : ∀ k, k < w.heap.size → k ≠ cb → w'.heap[k]? = w.heap[k]? := fun k hk hn => hb.block k hk hn
  refine ⟨rfl, ⟨⟨S, fun k => k = cb ∨ ∃ bm, Cls w' cb (.int .u32 1) (.int .i32 0) x' (.map (some bm)) ∧ MapAt w' bm famL ∧ bm ≠ cb ∧ (¬ S bm ∧ ¬ N bm ∧ w0.heap.size ≤ bm) ∧ k = bm, X.keep h1 (fun k hk => hwk k (hlt k hk) fun e => hcS (e ▸ hk)) hb.size, ⟨.inl rfl, fun k hk => ?_, x', hc'.imp id fun ⟨bm, a, b, c, d⟩ => ⟨bm, a, b, c, .inr ⟨bm, a, b, c, d, rfl⟩⟩⟩, fun k hk hk2 => ?_, fun k hk => ?_⟩, h5.trans ((Off.bel (S := fun k => k = cb) rfl hb).below (fun k hk => by rw [hk]; exact hcb.1) hz), fun k hk => Nat.lt_of_lt_of_le (h6 k hk) hb.size⟩, fun k hk => hwk k (h6 k hk) fun e => hcb.2 (e ▸ hk), hb.size⟩
  · rcases hk with rfl | ⟨bm, _, b, _, _, rfl⟩
    · exact Nat.lt_of_lt_of_le (t2 _ t1) hb.size
    · exact b.lt
  · rcases hk2 with rfl | ⟨bm, _, _, _, d, rfl⟩
    · exact hcS hk
    · exact d.1 hk
  · rcases hk with hk | rfl | ⟨bm, _, _, _, d, rfl⟩
    · exact h4 k (.inl hk)
    · exact hcb
    · exact ⟨d.2.2, d.2.1⟩
end
end

/- Layer 15: where a law's walk stands: two things, blocks that lie so, rows of pointers, of entries and of texts, all of them kept. -/
section
open Go.RowKit
set_option maxRecDepth 100000

structure St15 (w0 : World) (X Y : Thing) (ps : List (Nat × (Nat → Nat))) (l : List (Nat × Obj)) (rs : List (Option Addr × Nat × List Lg)) (xs : List (Option Addr × Nat × List ByteArray)) (w : World) : Prop where
  ex : ∃ N, Duo w0 X Y N w ∧ At15 l N w ∧ (∀ q ∈ ps, P3 w (some ⟨q.1, 0, none⟩) q.2 ∧ N q.1) ∧ (∀ r ∈ rs, LR w r.1 r.2.1 r.2.2 ∧ ∀ ad, r.1 = some ad → N ad.block) ∧ ∀ r ∈ xs, XR w r.1 r.2.1 r.2.2 ∧ ∀ ad, r.1 = some ad → N ad.block
section
variable {w0 w w' : World} {X X' Y Y' : Thing} {ps : List (Nat × (Nat → Nat))} {l : List (Nat × Obj)} {rs : List (Option Addr × Nat × List Lg)} {xs : List (Option Addr × Nat × List ByteArray)} {P : Program} {f : FuncId} {args : Array Value}
theorem St15.low (h : St15 w0 X Y ps l rs xs w) : Below w0.heap.size w0 w := by
  obtain ⟨N, h1, _⟩ := h
  exact h1.low
theorem St15.less {ps' : List (Nat × (Nat → Nat))} {l' : List (Nat × Obj)} {rs' : List (Option Addr × Nat × List Lg)} {xs' : List (Option Addr × Nat × List ByteArray)} (h : St15 w0 X Y ps l rs xs w) (h1 : ∀ q ∈ ps', q ∈ ps) (h2 : ∀ q ∈ l', q ∈ l) (h3 : ∀ q ∈ rs', q ∈ rs) (h4 : ∀ q ∈ xs', q ∈ xs) : St15 w0 X Y ps' l' rs' xs' w := by
  obtain ⟨N, a, b, c, d, e⟩ := h
  exact ⟨N, a, fun q hq => b q (h2 q hq), fun q hq => c q (h1 q hq), fun q hq => d q (h3 q hq), fun q hq => e q (h4 q hq)⟩
theorem St15.swap (h : St15 w0 X Y ps l rs xs w) : St15 w0 Y X ps l rs xs w := by
  obtain ⟨N, a, b⟩ := h
  exact ⟨N, a.swap, b⟩
theorem St15.make (h : Duo w0 X Y noneB w) : St15 w0 X Y [] [] [] [] w := ⟨noneB, h, (fun _ h => nomatch h), (fun _ h => nomatch h), (fun _ h => nomatch h), fun _ h => nomatch h⟩
theorem St15.at_ (h : St15 w0 X Y ps l rs xs w) {q : Nat × Obj} (hq : q ∈ l) : w.heap[q.1]? = some q.2 := by
  obtain ⟨N, _, b, _⟩ := h
  exact (b q hq).2
theorem St15.lr (h : St15 w0 X Y ps l rs xs w) {r : Option Addr × Nat × List Lg} (hr : r ∈ rs) : LR w r.1 r.2.1 r.2.2 := by
  obtain ⟨N, _, _, _, d, _⟩ := h
  exact (d r hr).1
theorem St15.xr (h : St15 w0 X Y ps l rs xs w) {r : Option Addr × Nat × List ByteArray} (hr : r ∈ xs) : XR w r.1 r.2.1 r.2.2 := by
  obtain ⟨N, _, _, _, _, e⟩ := h
  exact (e r hr).1
/-- what is marked stays -/
theorem St15.keep {N N' : Nat → Prop} (_ : Duo w0 X' Y' N' w') (b : At15 l N w) (c : ∀ q ∈ ps, P3 w (some ⟨q.1, 0, none⟩) q.2 ∧ N q.1) (d : ∀ r ∈ rs, LR w r.1 r.2.1 r.2.2 ∧ ∀ ad, r.1 = some ad → N ad.block) (e : ∀ r ∈ xs, XR w r.1 r.2.1 r.2.2 ∧ ∀ ad, r.1 = some ad → N ad.block)
    (hk : ∀ k, N k → N' k ∧ w'.heap[k]? = w.heap[k]?) (hz : w.heap.size ≤ w'.heap.size) : At15 l N' w' ∧ (∀ q ∈ ps, P3 w' (some ⟨q.1, 0, none⟩) q.2 ∧ N' q.1) ∧ (∀ r ∈ rs, LR w' r.1 r.2.1 r.2.2 ∧ ∀ ad, r.1 = some ad → N' ad.block) ∧ ∀ r ∈ xs, XR w' r.1 r.2.1 r.2.2 ∧ ∀ ad, r.1 = some ad → N' ad.block :=
  ⟨(b.kept fun k h => (hk k h).2).wide fun k h => (hk k h).1, fun q hq => ⟨(c q hq).1.kept hz (hk _ (c q hq).2).2, (hk _ (c q hq).2).1⟩, fun r hr => ⟨(d r hr).1.off hz fun ad h => (hk _ ((d r hr).2 ad h)).2, fun ad h => (hk _ ((d r hr).2 ad h)).1⟩, fun r hr => ⟨(e r hr).1.off hz fun ad h => (hk _ ((e r hr).2 ad h)).2, fun ad h => (hk _ ((e r hr).2 ad h)).1⟩⟩
theorem St15.next (h : St15 w0 X Y ps l rs xs w) (hb : Below w.heap.size w w') : St15 w0 X Y ps l rs xs w' := by
  obtain ⟨N, a, b, c, d, e⟩ := h
  exact ⟨N, a.next hb, St15.keep (a.next hb) b c d e (fun k hk => ⟨hk, hb.block k (a.nlt k hk)⟩) hb.size⟩
theorem St15.mark (h : St15 w0 X Y ps l rs xs w) (o : Obj) {t : Nat} (ho : w.alloc o = w') (ht : w.heap.size = t) : St15 w0 X Y ps ((t, o) :: l) rs xs w' := by
  obtain ⟨N, a, b, c, d, e⟩ := h
  subst ho ht
  have k := kp_new w o
  obtain ⟨b', c', d', e'⟩ := St15.keep (a.mark o) b c d e (fun i hi => ⟨.inr hi, k.block i (a.nlt i hi)⟩) k.size
  exact ⟨_, a.mark o, fun p hp => (List.mem_cons.1 hp).elim (fun e => by subst e; exact ⟨.inl rfl, heap_alloc_new w o⟩) (b' p), c', d', e'⟩
/-- a call on the first -/
theorem St15.left {Q : Ending → World → Prop} (h : St15 w0 X Y ps l rs xs w) (hop : ∀ S, X.p S w → Calls P f args w fun e w' => Q e w' ∧ Turn X' S w w') : Calls P f args w fun e w' => Q e w' ∧ St15 w0 X' Y ps l rs xs w' := by
  obtain ⟨N, a, b, c, d, e⟩ := h
  refine (a.left (X' := X') (Q := fun e w' => Q e w' ∧ w.heap.size ≤ w'.heap.size) fun S hS => (hop S hS).mono fun _ _ ⟨hq, ht⟩ => ⟨⟨hq, ht.off.size⟩, ht⟩).mono ?_
  rintro _ _ ⟨⟨hq, hz⟩, hd, hk⟩
  exact ⟨hq, N, hd, St15.keep hd b c d e (fun k h => ⟨h, hk k h⟩) hz⟩
theorem St15.asks {Q : Ending → World → Prop} (h : St15 w0 X Y ps l rs xs w) (hop : ∀ S, X.p S w → Calls P f args w fun e w' => Q e w' ∧ Below w.heap.size w w') : Calls P f args w fun e w' => Q e w' ∧ St15 w0 X Y ps l rs xs w' := by
  obtain ⟨N, ⟨⟨S, T, h1, _⟩, _⟩, _⟩ := id h
  exact (hop S h1).mono fun _ _ ⟨hq, hb⟩ => ⟨hq, h.next hb⟩
/-- a call on the first that tells a row of entries -/
theorem St15.toldL {Q : Ending → Option Addr → Nat → Nat → Prop} {lg : List Lg} (h : St15 w0 X Y ps l rs xs w) (hop : ∀ S, X.p S w → Calls P f args w fun e w' => ∃ A m d, (Q e A m d ∧ LR w' A m lg) ∧ Told1 X' S A w w') :
    Calls P f args w fun e w' => ∃ A m d, Q e A m d ∧ St15 w0 X' Y ps l ((A, m, lg) :: rs) xs w' := by
  obtain ⟨N, a, b, c, d, e⟩ := h
  refine (a.told15 b (X' := X') (Q := fun e w' A m d => Q e A m d ∧ LR w' A m lg) hop).mono ?_
  rintro _ w' ⟨A, m, dd, N', ⟨hq, hl⟩, hd, hat, hA, hk, hz⟩
  obtain ⟨b', c', d', e'⟩ := St15.keep hd b c d e hk hz
  exact ⟨A, m, dd, hq, N', hd, b', c', fun r hr => (List.mem_cons.1 hr).elim (fun e => by subst e; exact ⟨hl, hA⟩) (d' r), e'⟩
/-- a call on the first that tells a row of texts -/
theorem St15.toldX {Q : Ending → Option Addr → Nat → Nat → Prop} {ss : List ByteArray} (h : St15 w0 X Y ps l rs xs w) (hop : ∀ S, X.p S w → Calls P f args w fun e w' => ∃ A m d, (Q e A m d ∧ XR w' A m ss) ∧ Told1 X' S A w w') :
    Calls P f args w fun e w' => ∃ A m d, Q e A m d ∧ St15 w0 X' Y ps l rs ((A, m, ss) :: xs) w' := by
  obtain ⟨N, a, b, c, d, e⟩ := h
  refine (a.told15 b (X' := X') (Q := fun e w' A m d => Q e A m d ∧ XR w' A m ss) hop).mono ?_
  rintro _ w' ⟨A, m, dd, N', ⟨hq, hl⟩, hd, hat, hA, hk, hz⟩
  obtain ⟨b', c', d', e'⟩ := St15.keep hd b c d e hk hz
  exact ⟨A, m, dd, hq, N', hd, b', c', d', fun r hr => (List.mem_cons.1 hr).elim (fun e => by subst e; exact ⟨hl, hA⟩) (e' r)⟩
theorem St15.class {cb : Nat} (h : St15 w0 X (CT cb) ps l rs xs w) (hL : Lw w0) (s : ByteArray) (hs : s.size ≤ maxLen) :
    Calls Tryz.prog 26 #[.pointer (some ⟨cb, 0, none⟩), .string s] w fun e w' => e = .returned (.int .i64 (clsT s)) ∧ St15 w0 X (CT cb) ps l rs xs w' := by
  obtain ⟨N, a, b, c, d, e⟩ := h
  refine (a.class hL s hs).mono ?_
  rintro _ w' ⟨rfl, hd, hk, hz⟩
  exact ⟨rfl, N, hd, St15.keep hd b c d e (fun k h => ⟨h, hk k h⟩) hz⟩
end
section
variable {X : Nat → Nd → Thing} {w0 w : World} {Y : Thing} {bs : Nat → Nat} {ns : Nat → Nd} {ps : List (Nat × (Nat → Nat))} {l : List (Nat × Obj)} {rs : List (Option Addr × Nat × List Lg)} {xs : List (Option Addr × Nat × List ByteArray)}
end
end

/- A region that draws its order, gone through once an operation: as XReg6, but the state S sees what the slots hold (rows that a call told, and the world that has them, in one). -/
section
open Go.RowKit

/-- what the slots hold -/
def slotsOf (a : Act) : Nat → Value := fun t => a.tmps.getD t undef
theorem slots_ne {a : Act} {d t : Nat} {v : Value} (h : Nat.beq d t = false) : slotsOf { tmps := a.tmps.setIfInBounds d v, defers := a.defers } t = slotsOf a t := by
  have hne : d ≠ t := fun e => by subst e; rw [Nat.beq_refl] at h; cases h
  unfold slotsOf
  rw [Array.getD_eq_getD_getElem?, Array.getD_eq_getD_getElem?, Array.getElem?_setIfInBounds_ne hne]
theorem slots_eq {a : Act} {d : Nat} {v : Value} (h : d < a.tmps.size) : slotsOf { tmps := a.tmps.setIfInBounds d v, defers := a.defers } d = v := by
  unfold slotsOf
  rw [Array.getD_eq_getD_getElem?, Array.getElem?_setIfInBounds_self_of_lt h]
  rfl
section
variable {P : Program} {ops : Array Oper} {Q : Exit → Act → World → Prop}
/-- what one operation leaves -/
def Went7 (S : (Nat → Bool) → (Nat → Value) → World → Prop) {Kp : Nat → World → World → Prop} (Sp : Nat → Stl Kp) (L : Nat → Bool) (i : Nat) (a : Act) (d : Option Tmp) (w : World) (a' : Act) (w' : World) : Prop :=
  ∃ v, a' = a.put d v ∧ S (doneB L i) (slotsOf a') w' ∧ Kp i w w' ∧ ∀ t, d = some t → (Sp t).p (doneB L i) v w'
theorem Went7.same {S : (Nat → Bool) → (Nat → Value) → World → Prop} {Kp : Nat → World → World → Prop} {Sp : Nat → Stl Kp} {L : Nat → Bool} {i : Nat} {a : Act} {t : Nat} {w : World} {v : Value} (hr : Kp i w w) (hS : S (doneB L i) (slotsOf { tmps := a.tmps.setIfInBounds t v, defers := a.defers }) w) (h : (Sp t).p (doneB L i) v w)  : Went7 S Sp L i a (some t) w { tmps := a.tmps.setIfInBounds t v, defers := a.defers } w :=
  ⟨v, rfl, hS, hr, fun _ e => by injection e with e; subst e; exact h⟩
theorem Went7.next {S : (Nat → Bool) → (Nat → Value) → World → Prop} {Kp : Nat → World → World → Prop} {Sp : Nat → Stl Kp} {L : Nat → Bool} {i : Nat} {a : Act} {t : Nat} {w w' : World} {v : Value} (hS : S (doneB L i) (slotsOf { tmps := a.tmps.setIfInBounds t v, defers := a.defers }) w') (hb : Kp i w w') (h : (Sp t).p (doneB L i) v w')  : Went7 S Sp L i a (some t) w { tmps := a.tmps.setIfInBounds t v, defers := a.defers } w' :=
  ⟨v, rfl, hS, hb, fun _ e => by injection e with e; subst e; exact h⟩
end
section
variable {P : Program} {ops : Array Oper} {Q : Exit → Act → World → Prop}
/-- what is asked of one operation -/
def OkOp7 (P : Program) (ops : Array Oper) (Q : Exit → Act → World → Prop) (S : (Nat → Bool) → (Nat → Value) → World → Prop) {Kp : Nat → World → World → Prop} (Sp : Nat → Stl Kp) (a0 : Act) (i : Nat) (o : Oper) : Prop :=
  ∀ L a w, L i = false → StandI ops i a0 a → S L (slotsOf a) w → (∀ t, (waitsFor ops o).contains t = true → (Sp t).p L (a.tmps.getD t undef) w) → (∀ f j, needB ops f i j = true → L j = true) → (∀ f k, needB ops f k i = true → L k = false) →
    (Wants ops a o ∧ o.wp P a w (Went7 S Sp L i a o.dst w) Q) ∨ (WantsNot ops a o ∧ S (doneB L i) (slotsOf (a.put o.dst undef)) w ∧ Kp i w w ∧ ∀ t, o.dst = some t → (Sp t).p (doneB L i) undef w)

theorem wpAny_specs7 (S : (Nat → Bool) → (Nat → Value) → World → Prop) {Kp : Nat → World → World → Prop} (Sp : Nat → Stl Kp) (a0 : Act) (hok : regOk5 ops a0.tmps.size = true)
    (each : EachOp (OkOp7 P ops Q S Sp a0) 0 ops.toList)
    (fin : ∀ L a w, (∀ j, j < ops.size → L j = true) → Stand ops a0 a → S L (slotsOf a) w → (∀ t, (dstsOf ops).contains t = true → (Sp t).p L (a.tmps.getD t undef) w) → Q .normal a w) :
    ∀ (fuel : Nat) (listed : Array Bool) (a : Act) (w : World), listed.size = ops.size → ((List.range ops.size).filter fun i => !listed.getD i true).length ≤ fuel →
      Stand ops a0 a → S (fun j => listed.getD j false) (slotsOf a) w → (∀ i d, listed.getD i false = true → dstOf ops i = some d → (Sp d).p (fun j => listed.getD j false) (a.tmps.getD d undef) w) →
      (∀ j d, j < ops.size → listed.getD j false = false → dstOf ops j = some d → a.tmps.getD d undef = a0.tmps.getD d undef) →
      (∀ j o, listed.getD j false = true → ops[j]? = some o → ∀ e ∈ o.after, Region.binds .any e = true → listed.getD e.on false = true) → wpAny P .any ops Q fuel listed a w := by
  simp only [regOk5, Bool.and_eq_true, List.all_eq_true, decide_eq_true_eq] at hok
  obtain ⟨⟨hdst, hnd⟩, hlow⟩ := hok
  have hdst' : ∀ o ∈ ops.toList, ∀ d, o.dst = some d → d < a0.tmps.size := fun o ho d hd => by
    have := hdst o ho
    rw [hd] at this
    simpa using this
  have hinj : ∀ i j d, dstOf ops i = some d → dstOf ops j = some d → i = j := fun i j d hi hj => by
    unfold dstOf at hi hj
    obtain ⟨x, hx, hxd⟩ := Option.bind_eq_some_iff.1 hi
    obtain ⟨y, hy, hyd⟩ := Option.bind_eq_some_iff.1 hj
    exact once_filterMap (l := ops.toList) (fun o : Oper => o.dst) hnd (by simpa using hx) (by simpa using hy) hxd hyd
  have hready0 : ∀ listed : Array Bool, listed.size = ops.size → Region.ready .any ops listed = [] → ∀ i, i < ops.size → listed.getD i false = true := by
    intro listed hsz hr i
    induction i using Nat.strongRecOn with
    | _ i ih =>
      intro hi
      cases hl : listed.getD i false with
      | true => rfl
      | false =>
        exfalso
        have hl2 : listed.getD i true = false := by
          rw [Array.getD_eq_getD_getElem?, Array.getElem?_eq_getElem (by omega)] at hl ⊢; simpa using hl
        have hm : i ∈ Region.ready .any ops listed := by
          unfold Region.ready
          rw [List.mem_filter]
          refine ⟨List.mem_range.2 hi, ?_⟩
          rw [hl2, Array.getElem?_eq_getElem hi]
          simp only [Bool.not_false, Bool.true_and, Option.map_some, Option.getD_some, Array.all_eq_true_iff_forall_mem]
          intro e he
          have h1 := hlow (ops[i], i) (by rw [List.mem_zipIdx_iff_getElem?]; simp [hi])
          simp only [Array.all_eq_true_iff_forall_mem] at h1
          have h2 := h1 e he
          cases hb : Region.binds .any e with
          | false => simp
          | true =>
            rw [hb] at h2
            have h3 : e.on < i := by simpa using h2
            simp [ih e.on h3 (by omega)]
        rw [hr] at hm
        cases hm
  have hfin : ∀ listed a w, listed.size = ops.size → Stand ops a0 a → S (fun j => listed.getD j false) (slotsOf a) w → (∀ i d, listed.getD i false = true → dstOf ops i = some d → (Sp d).p (fun j => listed.getD j false) (a.tmps.getD d undef) w) → Region.ready .any ops listed = [] → Q .normal a w := by
    intro listed a w hsz hst hS hsp hr
    refine fin _ a w (hready0 listed hsz hr) hst hS fun t ht => ?_
    obtain ⟨o, ho, he⟩ := List.mem_filterMap.1 (List.contains_iff_mem.1 ht)
    obtain ⟨i, hi, hio⟩ := List.mem_iff_getElem.1 ho
    have hi' : i < ops.size := by simpa using hi
    have hd : dstOf ops i = some t := by
      unfold dstOf
      rw [Array.getElem?_eq_getElem hi', show ops[i] = o by rw [← hio]; simp]
      exact he
    exact hsp i t (hready0 listed hsz hr i hi') hd
  intro fuel
  induction fuel with
  | zero =>
    intro listed a w hsz hc hst hS hsp _ _
    have hr : Region.ready .any ops listed = [] := by
      have h0 : ((List.range ops.size).filter fun i => !listed.getD i true) = [] := List.eq_nil_of_length_eq_zero (by omega)
      unfold Region.ready
      rw [List.filter_eq_nil_iff] at h0 ⊢
      intro i hi
      have := h0 i hi
      simp only [Bool.not_eq_true] at this ⊢
      rw [this, Bool.false_and]
    exact ⟨hr, hfin listed a w hsz hst hS hsp hr⟩
  | succ fuel ih =>
    intro listed a w hsz hc hst hS hsp hun0 hcl
    refine ⟨hfin listed a w hsz hst hS hsp, fun i hi => ?_⟩
    unfold Region.ready at hi
    rw [List.mem_filter, List.mem_range] at hi
    obtain ⟨hilt, hi2⟩ := hi
    rw [Array.getElem?_eq_getElem hilt] at hi2
    simp only [Bool.and_eq_true, Option.map_some, Option.getD_some, Array.all_eq_true_iff_forall_mem] at hi2
    obtain ⟨hun, hdeps⟩ := hi2
    have hdi : dstOf ops i = (ops[i]).dst := by unfold dstOf; rw [Array.getElem?_eq_getElem hilt]; rfl
    have hthis := each.at_ i ops[i] (by simp [hilt])
    rw [Nat.zero_add] at hthis
    have hni : listed.getD i false = false := by
      have hl : listed.getD i true = false := by simpa using hun
      rw [Array.getD_eq_getD_getElem?, Array.getElem?_eq_getElem (by omega)] at hl ⊢
      simpa using hl
    have hold : ∀ t, (laterOf ops i).contains t = true → a.tmps.getD t undef = a0.tmps.getD t undef := fun t ht => by
      unfold laterOf at ht
      obtain ⟨o, ho, hot⟩ := List.mem_filterMap.1 (List.contains_iff_mem.1 ht)
      rw [List.mem_filter] at ho
      obtain ⟨j, hj, hje⟩ := List.mem_iff_getElem.1 ho.1
      have hj' : j < ops.size := by simpa using hj
      have hjo : ops[j]? = some o := by rw [Array.getElem?_eq_getElem hj', ← hje]; simp
      have hdj : dstOf ops j = some t := by unfold dstOf; rw [hjo]; exact hot
      refine hun0 j t hj' ?_ hdj
      rw [Bool.eq_false_iff]
      intro hlj
      obtain ⟨e, he, h2⟩ := Array.any_eq_true'.1 ho.2
      simp only [Bool.and_eq_true, beq_iff_eq] at h2
      have := hcl j o hlj hjo e he h2.1
      rw [h2.2, hni] at this
      cases this
    have hclB : ∀ k q, (fun j => listed.getD j false) k = true → depB ops k q = true → (fun j => listed.getD j false) q = true := fun k q hk hq => by
      unfold depB at hq
      cases hko : ops[k]? with
      | none => rw [hko] at hq; cases hq
      | some o =>
        rw [hko] at hq
        obtain ⟨e, he, h3⟩ := Array.any_eq_true'.1 hq
        simp only [Bool.and_eq_true, beq_iff_eq] at h3
        have h4 := hcl k o hk hko e he h3.1
        rw [h3.2] at h4
        exact h4
    have hor := hthis _ a w hni ⟨hst, hold⟩ hS (fun t ht => by
      unfold waitsFor at ht
      obtain ⟨e, he, het⟩ := List.mem_filterMap.1 (List.contains_iff_mem.1 ht)
      rw [List.mem_filter] at he
      have := hdeps e (by simpa using he.1)
      rw [he.2] at this
      exact hsp e.on t (by simpa using this) het) (fun f j hj => needB_done (L := fun j => listed.getD j false) (fun k q hk hq => by
        unfold depB at hq
        cases hko : ops[k]? with
        | none => rw [hko] at hq; cases hq
        | some o =>
          rw [hko] at hq
          obtain ⟨e, he, h3⟩ := Array.any_eq_true'.1 hq
          simp only [Bool.and_eq_true, beq_iff_eq] at h3
          have h4 := hcl k o hk hko e he h3.1
          rw [h3.2] at h4
          exact h4) f i j (fun k hk => by
        unfold depB at hk
        rw [Array.getElem?_eq_getElem hilt] at hk
        obtain ⟨e, he, h3⟩ := Array.any_eq_true'.1 hk
        simp only [Bool.and_eq_true, beq_iff_eq] at h3
        have h4 := hdeps e he
        rw [h3.1, h3.2] at h4
        simpa using h4) hj) (fun f k hk => by
        cases hlk : listed.getD k false with
        | false => rfl
        | true =>
          have h6 : listed.getD i false = true := needB_done (L := fun j => listed.getD j false) hclB f k i (fun q hq => hclB k q hlk hq) hk
          rw [hni] at h6
          cases h6)
    suffices key : ∀ a' w', Went7 S Sp (fun j => listed.getD j false) i a (ops[i]).dst w a' w' → wpAny P .any ops Q fuel (listed.setIfInBounds i true) a' w' by
      unfold wpOp
      simp only [Array.getElem?_eq_getElem hilt]
      rcases hor with ⟨hw, hwp⟩ | ⟨hw, hS', hk', hsp'⟩
      · simp only [wants hw, if_true]
        exact .inl (Oper.wp_mono (fun a' w' h => key a' w' h) hwp)
      · rw [wants_not hw]
        simp only [Bool.false_eq_true, if_false]
        exact key _ _ ⟨undef, rfl, hS', hk', hsp'⟩
    rintro a' w' ⟨v, rfl, hS', hb, hsp'⟩
    have hval : ∀ d, (ops[i]).dst = some d → ((a.put (ops[i]).dst v).tmps.getD d undef) = v := fun d hd => by
      rw [hd]
      simp only [Act.put]
      rw [Array.getD_eq_getD_getElem?, Array.getElem?_setIfInBounds_self_of_lt (by rw [hst.size]; exact hdst' ops[i] (by simp) d hd)]
      rfl
    have hoth : ∀ t, (ops[i]).dst ≠ some t → (a.put (ops[i]).dst v).tmps.getD t undef = a.tmps.getD t undef := fun t ht => by
      cases hd : (ops[i]).dst with
      | none => rfl
      | some d =>
        simp only [Act.put]
        rw [Array.getD_eq_getD_getElem?, Array.getD_eq_getD_getElem?, Array.getElem?_setIfInBounds_ne (fun h => ht (by rw [hd, h]))]
    have hput : (a.put (ops[i]).dst v).tmps.size = a0.tmps.size ∧ (a.put (ops[i]).dst v).defers = a0.defers := by
      cases (ops[i]).dst <;> simp [Act.put, hst.size, hst.defers]
    have hset : ∀ j, j ≠ i → (listed.setIfInBounds i true).getD j false = listed.getD j false := fun j hji => by
      rw [Array.getD_eq_getD_getElem?, Array.getElem?_setIfInBounds_ne (fun h => hji h.symm), ← Array.getD_eq_getD_getElem?]
    have hseti : (listed.setIfInBounds i true).getD i false = true := by
      rw [Array.getD_eq_getD_getElem?, Array.getElem?_setIfInBounds_self_of_lt (by omega)]; rfl
    refine ih _ _ _ (by simp [hsz]) ?_ ⟨hput.1, hput.2, fun t ht => ?_⟩ (by rw [doneB_ext (L := fun j => listed.getD j false) (i := i) (M := fun j => (listed.setIfInBounds i true).getD j false) hseti hset]; exact hS') (fun j dj hj hdj => ?_) (fun j dj hj hlj hdj => ?_) (fun j o hlj hjo e he hb2 => ?_)
    · have hl : listed.getD i true = false := by simpa using hun
      have := filter_lt (l := List.range ops.size) (p := fun j => !listed.getD j true) (q := fun j => !(listed.setIfInBounds i true).getD j true) (fun x hx => by
        by_cases hxi : i = x
        · subst hxi
          rw [Array.getD_eq_getD_getElem?, Array.getElem?_setIfInBounds_self_of_lt (by omega)] at hx
          simp at hx
        · rw [Array.getD_eq_getD_getElem?, Array.getElem?_setIfInBounds_ne hxi, ← Array.getD_eq_getD_getElem?] at hx
          exact hx) (i := i) (List.mem_range.2 hilt) (by simp [hl]) (by
          rw [Array.getD_eq_getD_getElem?, Array.getElem?_setIfInBounds_self_of_lt (by omega)]; simp)
      omega
    · rw [hoth t, hst.out t ht]
      intro e
      have : (dstsOf ops).contains t = true := List.contains_iff_mem.2 (List.mem_filterMap.2 ⟨ops[i], by simp, e⟩)
      rw [this] at ht
      cases ht
    · by_cases hji : j = i
      · subst hji
        rw [hdi] at hdj
        rw [hval dj hdj, doneB_ext (L := fun q => listed.getD q false) (i := j) (M := fun q => (listed.setIfInBounds j true).getD q false) hseti hset]
        exact hsp' dj hdj
      · have hne : (ops[i]).dst ≠ some dj := fun e => hji (hinj j i dj hdj (hdi.trans e))
        rw [hoth dj hne]
        rw [Array.getD_eq_getD_getElem?, Array.getElem?_setIfInBounds_ne (fun h => hji h.symm), ← Array.getD_eq_getD_getElem?] at hj
        rw [doneB_ext (L := fun j => listed.getD j false) (i := i) (M := fun j => (listed.setIfInBounds i true).getD j false) hseti hset]
        exact (Sp dj).st i _ _ _ _ hni (hsp j dj hj hdj) hb
    · have hji : j ≠ i := fun h => by rw [h, hseti] at hlj; cases hlj
      rw [hset j hji] at hlj
      rw [hoth dj (fun e => hji (hinj j i dj hdj (hdi.trans e)))]
      exact hun0 j dj hj hlj hdj
    · have hon : listed.getD e.on false = true := by
        by_cases hji : j = i
        · subst hji
          rw [Array.getElem?_eq_getElem hilt] at hjo
          injection hjo with hjo
          subst hjo
          have := hdeps e he
          rw [hb2] at this
          simpa using this
        · rw [hset j hji] at hlj
          exact hcl j o hlj hjo e he hb2
      by_cases hei : e.on = i
      · rw [hei]; exact hseti
      · rw [hset _ hei]; exact hon

theorem wp_region_specs7 {id : Nat} {a0 : Act} {w0 : World} (S : (Nat → Bool) → (Nat → Value) → World → Prop) {Kp : Nat → World → World → Prop} (Sp : List (Nat × Stl Kp)) (hm : P.follows .mixedOrders = true) (hok : regOk5 ops a0.tmps.size = true) (hS : S (fun _ => false) (slotsOf a0) w0.drew)
    (each : EachOp (OkOp7 P ops Q S (Stl.find Sp) a0) 0 ops.toList)
    (fin : ∀ L a w, (∀ j, Nat.blt j ops.size = true → L j = true) → Stand ops a0 a → S L (slotsOf a) w → (∀ t, (dstsOf ops).contains t = true → (Stl.find Sp t).p L (a.tmps.getD t undef) w) → Q .normal a w) :
    (Code.region id ops true).wp P Q a0 w0 :=
  wp_region_any hm (wpAny_specs7 S (Stl.find Sp) a0 hok each (fun L a w hL => fin L a w fun j hj => hL j (Nat.le_of_ble_eq_true hj)) _ _ _ _ (by simp) (by
    refine Nat.le_trans (List.length_filter_le _ _) (by simp)) ⟨rfl, rfl, fun _ _ => rfl⟩ (by rw [show (fun j => (Array.replicate ops.size false).getD j false) = fun _ => false from by funext j; rw [Array.getD_eq_getD_getElem?, Array.getElem?_replicate]; split <;> rfl]; exact hS) (fun i d h => by
    exfalso
    rw [Array.getD_eq_getD_getElem?, Array.getElem?_replicate] at h
    split at h <;> simp at h) (fun _ _ _ _ _ => rfl) (fun j o h => by
    exfalso
    rw [Array.getD_eq_getD_getElem?, Array.getElem?_replicate] at h
    split at h <;> simp at h))
end
end

/- Layer 15: what the laws' walks share: rows that a call made, a node copied from another, a node that leads; regions that draw their order around one call. -/
section
open Go.RowKit
set_option maxRecDepth 100000

theorem own_blk15 {w : World} {base n size c : Nat} {e : TypeId} {A : Option Addr} {xs : List Value} (h : w.ownsRow base e size (.slice A n c) n xs) : ∀ ad, A = some ad → base ≤ ad.block ∧ ad.block < w.heap.size := by
  rintro ad rfl
  rcases h.2 with ⟨h1, _⟩ | ⟨g, cap, cur, h1, hb, hg, _⟩
  · cases h1
  · injection h1 with h1 _ _
    injection h1 with h1
    subst h1
    exact ⟨hb, (Array.getElem?_eq_some_iff.1 hg).1⟩
section
variable {w0 w w' : World} {X Y : Thing} {ps : List (Nat × (Nat → Nat))} {l : List (Nat × Obj)} {rs : List (Option Addr × Nat × List Lg)} {xs : List (Option Addr × Nat × List ByteArray)}
/-- a row that a call made -/
theorem St15.row (h : St15 w0 X Y ps l rs xs w) (hb : Below w.heap.size w w') {A : Option Addr} {m : Nat} {lg : List Lg} (hl : LR w' A m lg) (hn : ∀ ad, A = some ad → w.heap.size ≤ ad.block ∧ ad.block < w'.heap.size) : St15 w0 X Y ps l ((A, m, lg) :: rs) xs w' := by
  obtain ⟨N, a, b, c, d, e⟩ := h
  obtain ⟨⟨S, T, h1, h2, h3, h4⟩, h5, h6⟩ := id a
  have hlt : ∀ k, S k ∨ T k → k < w.heap.size := fun k hk => hk.elim (X.lt h1 k) (Y.lt h2 k)
  have a' : Duo w0 X Y (fun k => (∃ ad, A = some ad ∧ k = ad.block) ∨ N k) w' := by
    obtain ⟨_, b1, b2⟩ := a.next hb
    refine ⟨⟨S, T, Thing.next h1 hb, Thing.next h2 hb, h3, fun k hk => ⟨(h4 k hk).1, fun e => e.elim (fun ⟨ad, hA, e⟩ => ?_) (h4 k hk).2⟩⟩, b1, fun k hk => hk.elim (fun ⟨ad, hA, e⟩ => by rw [e]; exact (hn ad hA).2) (b2 k)⟩
    have := hlt k hk
    have := (hn ad hA).1
    omega
  obtain ⟨b', c', d', e'⟩ := St15.keep a' b c d e (fun k hk => ⟨.inr hk, hb.block k (h6 k hk)⟩) hb.size
  exact ⟨_, a', b', c', fun r hr => (List.mem_cons.1 hr).elim (fun e => by subst e; exact ⟨hl, fun ad h => .inl ⟨ad, h, rfl⟩⟩) (d' r), e'⟩
end
section
variable {X : Nat → Nd → Thing} {w0 w : World} {Y : Thing} {bs : Nat → Nat} {ns : Nat → Nd} {ps : List (Nat × (Nat → Nat))} {l : List (Nat × Obj)} {rs : List (Option Addr × Nat × List Lg)} {xs : List (Option Addr × Nat × List ByteArray)}
end
section
variable {a : Nat} {W u : World} {G : World → Prop} {L : Nat → Bool}
end
end
end Go.Proofs.YtdhnpmagapbmhaaGreatDoor
