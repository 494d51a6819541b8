/-
  Contracts and plain functions that the law stands on, part 12 of 16.
-/
import Derived.Test.YtaoegiohnebnhaaGreatDoorQA11
import Derived.Lib.SliceRun
namespace Go.Proofs.YtaoegiohnebnhaaGreatDoor
/- The landed node: Run: contract. -/
section
open Go.RowKit Go.Maps Go.WideMaps
set_option maxRecDepth 100000

theorem clsT_le (s : ByteArray) : clsT s = 0 ∨ clsT s = 1 ∨ clsT s = 2 ∨ clsT s = 3 ∨ clsT s = 4 ∨ clsT s = 5 ∨ clsT s = 6 ∨ clsT s = 7 := by
  have h1 : ∀ (rest : List Tok) (c : Int), exF rest c = 1 ∨ exF rest c = 2 ∨ exF rest c = 7 := fun rest c => by
    unfold exF
    (repeat' split) <;> simp
  have h3 : ∀ (v : Int) (rest : List Tok) (x : Int), (x = 1 ∨ x = 2 ∨ x = 7) → 1 ≤ famB v rest x ∧ famB v rest x ≤ 7 := fun v rest x h => by
    unfold famB selF ifF
    (repeat' split) <;> omega
  have h2 : ∀ l : List Tok, 1 ≤ classF l ∧ classF l ≤ 7 := fun l => by
    cases l with
    | nil => rw [classF_nil]; omega
    | cons t r =>
      cases hb : (decide (t.1 ≠ 1) || (t :: r).any stopF) with
      | true => rw [classF, hb, if_pos rfl]; omega
      | false => rw [classF, hb, if_neg (by simp)]; exact h3 _ _ _ (h1 r _)
  unfold clsT classA
  split
  · have := h2 (bodyF (lexA s.data.toList).1)
    omega
  · simp
theorem run15_of (n : Nd) (c e : Int) (rd : Bool) (s : ByteArray) : (runNd n c e rd s).1.ep = (runNd n c e rd s).2.ep ∧ (runNd n c e rd s).1.pl = (runNd n c e rd s).2.lg.length := by
  unfold runNd
  split
  · exact ⟨rfl, rfl⟩
  split <;> exact ⟨rfl, rfl⟩
section
variable {b : Nat} {n : Nd} {S : Nat → Prop} {w w' : World} {k : Nat}
/-- what its Classer's answer leaves -/
theorem PN.classes (s : ByteArray) (hs : Sm s) (hL : Lw w) {cb bm : Nat} {AL : Option Addr} {nl cl : Nat} {W : Wts} {col : Nat → Role} (hx : PNx b n cb bm AL nl cl W col S w) :
    Calls Tryz.prog 25 #[.pointer (some ⟨cb, 0, none⟩), .string s] w fun e w' => e = .returned (.int .i64 (clsT s)) ∧ Turn (PN b n) S w w' ∧ Lw w' := by
  obtain ⟨hcS, hclt, x, hcx⟩ := hx.cls
  have hM : CLm (fun q => (S q ∧ col q = .cls) ∨ w.heap.size ≤ q) w cb := ⟨fun q hq => .inr hq, x, hcx.imp id fun ⟨q, a1, a2, a3, a4⟩ => ⟨q, a1, a2, a3, .inl a4⟩⟩
  have hgc : cb ≠ 0 := fun e => by
    obtain ⟨m, hm0⟩ := hL
    have hm : w.cell? ⟨cb, 0, none⟩ = some (.int .i64 m) := by rw [e]; exact hm0
    rcases hcx with h | ⟨q, h, _⟩
    · have := h.cells.1
      rw [hm] at this
      cases this
    · have := h.cells.1
      rw [hm] at this
      cases this
  refine (class_m s cb w (by unfold Sm at hs; unfold maxLen; omega) hL hM).mono ?_
  rintro e w' ⟨rfl, ⟨_, x', hc'⟩, hb⟩
  have hoff : Off S w w' := Off.bel hcS.1 hb
  refine ⟨rfl, PN.turn (hx.classed hc' (fun q hq hn => hb.block q (hx.lt q hq) hn) hb.size) hoff, ?_⟩
  obtain ⟨m, hm⟩ := hL
  exact ⟨m, (World.cell?_of_block (hb.block _ (World.block_lt_of_cell? _ _ hm) (Ne.symm hgc))).trans hm⟩
/-- what a method does of a class, and what it answers -/
structure Does (b : Nat) (n' : Nd) (S : Nat → Prop) (er : Int) (ts : List ByteArray) (w : World) (e : Ending) (w' : World) : Prop where
  at_ : ∃ A m d, e = .returned (.tuple #[.slice A m d, .int .i64 er]) ∧ XR w' A m ts ∧ Told1 (PN b n') S A w w'
theorem Does.turn {n' : Nd} {er : Int} (h : Turn (PN b n') S w w') : Does b n' S er [] w (.returned (doV er)) w' := ⟨⟨none, 0, 0, rfl, XR.nil w', h.none⟩⟩
theorem Does.ahead {n' : Nd} {er : Int} {ts : List ByteArray} {e : Ending} {u : World} (h : Does b n' S er ts u e w') (hb : Below w.heap.size w u) : Does b n' S er ts w e w' := by
  obtain ⟨A, m, d, h1, h2, ⟨S', h3, h4, h5⟩, h6⟩ := h
  have hz := hb.size
  exact ⟨⟨A, m, d, h1, h2, ⟨S', h3, fun q hq => (h4 q hq).imp id (fun e => by omega), fun ad e => ⟨by have := (h5 ad e).1; omega, (h5 ad e).2⟩⟩, (Off.of S hb).trans h6 fun _ h => .inl h⟩⟩
theorem Does.comp {n' : Nd} {er : Int} {ts : List ByteArray} {e : Ending} {u : World} {S1 : Nat → Prop} (h2 : ∀ q, S1 q → S q ∨ w.heap.size ≤ q) (h3 : Off S w u) (h : Does b n' S1 er ts u e w') : Does b n' S er ts w e w' := by
  obtain ⟨A, m, d, h1, h4, ⟨S', h5, h6, h7⟩, h8⟩ := h
  have hz := h3.size
  exact ⟨⟨A, m, d, h1, h4, ⟨S', h5, fun q hq => (h6 q hq).elim (fun e => h2 q e) (fun e => .inr (by omega)), fun ad e => ⟨by have := (h7 ad e).1; omega, (h7 ad e).2⟩⟩, h3.trans h8 h2⟩⟩
theorem run15_err {n : Nd} {c e : Int} {rd : Bool} {s : ByteArray} {x : Int} (h : whyNd n e rd (clsT s) = x) (hx : x ≠ 0) : (runNd n c e rd s).2 = n ∧ (runNd n c e rd s).1.e = x ∧ (runNd n c e rd s).1.ts = [] := by
  unfold runNd
  rw [if_pos (by rw [h]; exact hx)]
  exact ⟨rfl, h, rfl⟩
theorem run15_does {n : Nd} {c e : Int} {rd : Bool} {s : ByteArray} (h : whyNd n e rd (clsT s) = 0) : (runNd n c e rd s).2 = (if clsT s ≠ 1 then (doNd n c (clsT s) s).2 else n) ∧ (runNd n c e rd s).1.e = (if clsT s ≠ 1 then (doNd n c (clsT s) s).1 else 0) ∧ (runNd n c e rd s).1.ts = if clsT s ≠ 1 then [] else rdT s (tabN n.lg (waitsNd n c)) := by
  unfold runNd
  rw [if_neg (by rw [h]; exact fun e => e rfl)]
  split <;> exact ⟨rfl, rfl, rfl⟩
set_option maxHeartbeats 16000000 in
theorem prun15_ok (c e : Int) (rd : Bool) (s : ByteArray) (hL : Lw w) (h : (PN b n).p S w) (hi : NdI k n) (hk : k ≤ 800) (hs : Sm s) (hc : I64n c) :
    Calls Tryz.prog 46 #[.pointer (some ⟨b, 0, none⟩), .int .i64 c, .int .u64 e, .bool rd, .string s] w (Does b (runNd n c e rd s).2 S (runNd n c e rd s).1.e (runNd n c e rd s).1.ts w) := by
  suffices hall : ∀ R : Ending → World → Prop, (∀ e' w', Does b (runNd n c e rd s).2 S (runNd n c e rd s).1.e (runNd n c e rd s).1.ts w e' w' → R e' w') → Calls Tryz.prog 46 #[.pointer (some ⟨b, 0, none⟩), .int .i64 c, .int .u64 e, .bool rd, .string s] w R from hall _ fun _ _ h => h
  intro R hR
  obtain ⟨cb, bm, AL, nl, cl, W, col, hx⟩ := h
  obtain ⟨c0, _⟩ := hx.tops
  have HC := Lib.hid (PN.classes s hs hL hx)
  have HI := Lib.hid hi
  clear hx
  go_enter Tryz.func46, Tryz.ntmps46
  go_wp2_with fail
  refine HC.out.mono ?_
  rintro e1 w1 ⟨rfl, ht, hL1⟩
  have HE : Hid (∀ x, whyNd n e rd (clsT s) = x → x ≠ 0 → R (.returned (.tuple #[.slice none 0 0, .int .i64 x])) w1) := Lib.hid fun x h1 h2 => hR _ _ (by
    obtain ⟨k1, k2, k3⟩ := run15_err (c := c) h1 h2
    rw [k1, k2, k3]
    exact Does.turn ht)
  have HL1 := Lib.hid hL1
  obtain ⟨⟨S1, h1, hS1⟩, hof⟩ := ht
  have HD0 := Lib.hid h1
  have HDo : Hid (∀ j, clsT s = j → j ≠ 1 → whyNd n e rd j = 0 → ∀ w2 w3, Below w1.heap.size w1 w2 → Turn (PN b (doNd n c j s).2) S1 w2 w3 → R (.returned (.tuple #[.slice none 0 0, .int .i64 (doNd n c j s).1])) w3) := Lib.hid fun j hj hj1 hw w2 w3 hb h3 => hR _ _ (by
    obtain ⟨k1, k2, k3⟩ := run15_does (c := c) (by rw [hj]; exact hw)
    rw [k1, k2, k3, hj, if_pos hj1, if_pos hj1, if_pos hj1]
    exact Does.comp hS1 hof ((Does.turn h3).ahead hb))
  have HRd : Hid (clsT s = 1 → whyNd n e rd 1 = 0 → ∀ A m d w2 w3, Below w1.heap.size w1 w2 → XR w3 A m (rdT s (tabN n.lg (waitsNd n c))) → (∀ ad, A = some ad → w2.heap.size ≤ ad.block ∧ ad.block < w3.heap.size) → Below w2.heap.size w2 w3 → R (.returned (.tuple #[.slice A m d, .int .i64 0])) w3) := Lib.hid fun hj hw A m d w2 w3 hb h3 h4 h5 => hR _ _ (by
    obtain ⟨k1, k2, k3⟩ := run15_does (c := c) (by rw [hj]; exact hw)
    rw [k1, k2, k3, if_neg (fun h => h hj), if_neg (fun h => h hj), if_neg (fun h => h hj)]
    have h6 := Thing.next h1 hb
    refine Does.comp hS1 hof (Does.ahead ⟨⟨A, m, d, rfl, h3, ⟨S1, Thing.next h6 h5, fun _ h => .inl h, fun ad e => ⟨(h4 ad e).1, (h4 ad e).2, fun hS => ?_⟩⟩, Off.of S1 h5⟩⟩ hb)
    have := (PN b n).lt h6 _ hS
    have := (h4 ad e).1
    omega)
  obtain ⟨cb1, bm1, AL1, nl1, cl1, W1, col1, hx1⟩ := h1
  obtain ⟨_, d1, d2, _⟩ := hx1.tops
  clear HC hx1 hof hS1 hL1 c0 hR
  by_cases he : e = n.ep
  rotate_left
  · have hq : (e != n.ep) = true := by simpa using he
    go_wp2_with fail
    exact HE.out 8 (by unfold whyNd; rw [if_pos he]) (by decide)
  subst he
  rcases clsT_le s with hcl | hcl | hcl | hcl | hcl | hcl | hcl | hcl
  · rw [hcl]
    go_wp2_with fail
    exact HE.out 2 (by rw [hcl]; simp [whyNd]) (by decide)
  · rw [hcl]
    cases rd with
    | true =>
      go_wp2_with fail
      refine (acts_ok _).mono ?_
      rintro e2 w2 ⟨bm2, rfl, hlk, hb2⟩
      have hlk2 : (Instr.lookup 147 (.map (some bm2)) (.int .i64 1) false).run Tryz.prog w2 = .ok (.func (.func 102) #[] #[]) w2 := hlk (1, 102) (by simp [actL])
      have HM := Lib.hid (pread15_ok c hc s hs (Thing.next HD0.out hb2) (HL1.out.next hb2) HI.out)
      have HB2 := Lib.hid hb2
      clear hlk hb2
      go_wp2_with fail
      refine HM.out.mono ?_
      rintro e3 w3 ⟨A3, m3, d3, rfl, h3, h4, h5⟩
      have HF := Lib.hid (HRd.out hcl (by simp [whyNd]) A3 m3 d3 w2 w3 HB2.out h3 h4 h5)
      clear h3 h4 h5 hlk2 HM
      go_wp2_with fail
      exact HF.out
    | false =>
      cases hld : n.ld with
      | false =>
        rw [hld] at d2
        go_wp2_with fail
        exact HE.out 7 (by rw [hcl]; simp [whyNd, hld]) (by decide)
      | true =>
        rw [hld] at d2
        go_wp2_with fail
        refine (acts_ok _).mono ?_
        rintro e2 w2 ⟨bm2, rfl, hlk, hb2⟩
        have hlk2 : (Instr.lookup 147 (.map (some bm2)) (.int .i64 1) false).run Tryz.prog w2 = .ok (.func (.func 102) #[] #[]) w2 := hlk (1, 102) (by simp [actL])
        have HM := Lib.hid (pread15_ok c hc s hs (Thing.next HD0.out hb2) (HL1.out.next hb2) HI.out)
        have HB2 := Lib.hid hb2
        clear hlk hb2
        go_wp2_with fail
        refine HM.out.mono ?_
        rintro e3 w3 ⟨A3, m3, d3, rfl, h3, h4, h5⟩
        have HF := Lib.hid (HRd.out hcl (by simp [whyNd, hld]) A3 m3 d3 w2 w3 HB2.out h3 h4 h5)
        clear h3 h4 h5 hlk2 HM
        go_wp2_with fail
        exact HF.out
  · rw [hcl]
    cases rd with
    | true =>
      go_wp2_with fail
      exact HE.out 2 (by rw [hcl]; simp [whyNd]) (by decide)
    | false =>
      cases hld : n.ld with
      | false =>
        rw [hld] at d2
        go_wp2_with fail
        exact HE.out 7 (by rw [hcl]; simp [whyNd, hld]) (by decide)
      | true =>
        rw [hld] at d2
        go_wp2_with fail
        refine (acts_ok _).mono ?_
        rintro e2 w2 ⟨bm2, rfl, hlk, hb2⟩
        have hlk2 : (Instr.lookup 147 (.map (some bm2)) (.int .i64 2) false).run Tryz.prog w2 = .ok (.func (.func 103) #[] #[]) w2 := hlk (2, 103) (by simp [actL])
        have HM := Lib.hid (pwrite15_ok 2 c (.inl rfl) hc s (Thing.next HD0.out hb2) HI.out hk)
        have HB2 := Lib.hid hb2
        clear hlk hb2
        go_wp2_with fail
        refine HM.out.mono ?_
        rintro e3 w3 ⟨rfl, ht3⟩
        have HF := Lib.hid (HDo.out 2 hcl (by decide) (by simp [whyNd, hld]) w2 w3 HB2.out ht3)
        clear ht3 hlk2 HM
        unfold doV
        go_wp2_with fail
        exact HF.out
  · rw [hcl]
    cases rd with
    | true =>
      go_wp2_with fail
      exact HE.out 2 (by rw [hcl]; simp [whyNd]) (by decide)
    | false =>
      cases hld : n.ld with
      | false =>
        rw [hld] at d2
        go_wp2_with fail
        exact HE.out 7 (by rw [hcl]; simp [whyNd, hld]) (by decide)
      | true =>
        rw [hld] at d2
        go_wp2_with fail
        refine (acts_ok _).mono ?_
        rintro e2 w2 ⟨bm2, rfl, hlk, hb2⟩
        have hlk2 : (Instr.lookup 147 (.map (some bm2)) (.int .i64 3) false).run Tryz.prog w2 = .ok (.func (.func 104) #[] #[]) w2 := hlk (3, 104) (by simp [actL])
        have HM := Lib.hid (pbegin15_ok c hc s (Thing.next HD0.out hb2) HI.out hk)
        have HB2 := Lib.hid hb2
        clear hlk hb2
        go_wp2_with fail
        refine HM.out.mono ?_
        rintro e3 w3 ⟨rfl, ht3⟩
        have HF := Lib.hid (HDo.out 3 hcl (by decide) (by simp [whyNd, hld]) w2 w3 HB2.out ht3)
        clear ht3 hlk2 HM
        unfold doV
        go_wp2_with fail
        exact HF.out
  · rw [hcl]
    cases rd with
    | true =>
      go_wp2_with fail
      exact HE.out 2 (by rw [hcl]; simp [whyNd]) (by decide)
    | false =>
      cases hld : n.ld with
      | false =>
        rw [hld] at d2
        go_wp2_with fail
        exact HE.out 7 (by rw [hcl]; simp [whyNd, hld]) (by decide)
      | true =>
        rw [hld] at d2
        go_wp2_with fail
        refine (acts_ok _).mono ?_
        rintro e2 w2 ⟨bm2, rfl, hlk, hb2⟩
        have hlk2 : (Instr.lookup 147 (.map (some bm2)) (.int .i64 4) false).run Tryz.prog w2 = .ok (.func (.func 105) #[] #[]) w2 := hlk (4, 105) (by simp [actL])
        have HM := Lib.hid (pcommit15_ok c hc s (Thing.next HD0.out hb2) HI.out)
        have HB2 := Lib.hid hb2
        clear hlk hb2
        go_wp2_with fail
        refine HM.out.mono ?_
        rintro e3 w3 ⟨rfl, ht3⟩
        have HF := Lib.hid (HDo.out 4 hcl (by decide) (by simp [whyNd, hld]) w2 w3 HB2.out ht3)
        clear ht3 hlk2 HM
        unfold doV
        go_wp2_with fail
        exact HF.out
  · rw [hcl]
    cases rd with
    | true =>
      go_wp2_with fail
      exact HE.out 2 (by rw [hcl]; simp [whyNd]) (by decide)
    | false =>
      cases hld : n.ld with
      | false =>
        rw [hld] at d2
        go_wp2_with fail
        exact HE.out 7 (by rw [hcl]; simp [whyNd, hld]) (by decide)
      | true =>
        rw [hld] at d2
        go_wp2_with fail
        refine (acts_ok _).mono ?_
        rintro e2 w2 ⟨bm2, rfl, hlk, hb2⟩
        have hlk2 : (Instr.lookup 147 (.map (some bm2)) (.int .i64 5) false).run Tryz.prog w2 = .ok (.func (.func 106) #[] #[]) w2 := hlk (5, 106) (by simp [actL])
        have HM := Lib.hid (prollback15_ok c hc s (Thing.next HD0.out hb2) HI.out)
        have HB2 := Lib.hid hb2
        clear hlk hb2
        go_wp2_with fail
        refine HM.out.mono ?_
        rintro e3 w3 ⟨rfl, ht3⟩
        have HF := Lib.hid (HDo.out 5 hcl (by decide) (by simp [whyNd, hld]) w2 w3 HB2.out ht3)
        clear ht3 hlk2 HM
        unfold doV
        go_wp2_with fail
        exact HF.out
  · rw [hcl]
    cases rd with
    | true =>
      go_wp2_with fail
      exact HE.out 2 (by rw [hcl]; simp [whyNd]) (by decide)
    | false =>
      cases hld : n.ld with
      | false =>
        rw [hld] at d2
        go_wp2_with fail
        exact HE.out 7 (by rw [hcl]; simp [whyNd, hld]) (by decide)
      | true =>
        rw [hld] at d2
        go_wp2_with fail
        refine (acts_ok _).mono ?_
        rintro e2 w2 ⟨bm2, rfl, hlk, hb2⟩
        have hlk2 : (Instr.lookup 147 (.map (some bm2)) (.int .i64 6) false).run Tryz.prog w2 = .ok (.func (.func 107) #[] #[]) w2 := hlk (6, 107) (by simp [actL])
        have HM := Lib.hid (ppass15_ok c s (Thing.next HD0.out hb2))
        have HB2 := Lib.hid hb2
        clear hlk hb2
        go_wp2_with fail
        refine HM.out.mono ?_
        rintro e3 w3 ⟨rfl, ht3⟩
        have HF := Lib.hid (HDo.out 6 hcl (by decide) (by simp [whyNd, hld]) w2 w3 HB2.out ht3)
        clear ht3 hlk2 HM
        unfold doV
        go_wp2_with fail
        exact HF.out
  · rw [hcl]
    cases rd with
    | true =>
      go_wp2_with fail
      exact HE.out 2 (by rw [hcl]; simp [whyNd]) (by decide)
    | false =>
      cases hld : n.ld with
      | false =>
        rw [hld] at d2
        go_wp2_with fail
        exact HE.out 7 (by rw [hcl]; simp [whyNd, hld]) (by decide)
      | true =>
        rw [hld] at d2
        go_wp2_with fail
        refine (acts_ok _).mono ?_
        rintro e2 w2 ⟨bm2, rfl, hlk, hb2⟩
        have hlk2 : (Instr.lookup 147 (.map (some bm2)) (.int .i64 7) false).run Tryz.prog w2 = .ok (.func (.func 103) #[] #[]) w2 := hlk (7, 103) (by simp [actL])
        have HM := Lib.hid (pwrite15_ok 7 c (.inr rfl) hc s (Thing.next HD0.out hb2) HI.out hk)
        have HB2 := Lib.hid hb2
        clear hlk hb2
        go_wp2_with fail
        refine HM.out.mono ?_
        rintro e3 w3 ⟨rfl, ht3⟩
        have HF := Lib.hid (HDo.out 7 hcl (by decide) (by simp [whyNd, hld]) w2 w3 HB2.out ht3)
        clear ht3 hlk2 HM
        unfold doV
        go_wp2_with fail
        exact HF.out
theorem Told1.reply {Y : Thing} {A : Option Addr} {wA w3 wf : World} {rb : Nat} (ht : Told1 Y S A wA w3) (kA : Below w.heap.size w wA) (hrb : w.heap.size = rb) (hz : wA.heap.size = rb + 1) (hS : ∀ k, S k → k < w.heap.size) (ho : Off (fun k => k = rb) w3 wf) : Told1 Y S A w wf := by
  obtain ⟨⟨S', h1, h2, h3⟩, h4⟩ := ht
  have hne : ∀ q, S' q → q ≠ rb := fun q hq => by
    rcases h2 q hq with h | h
    · have := hS q h
      omega
    · omega
  have h1' := Thing.off h1 ho hne
  have hz3 := ho.size
  refine ⟨⟨S', h1', fun q hq => (h2 q hq).imp id (fun e => by omega), fun ad e => ⟨by have := (h3 ad e).1; omega, by have := (h3 ad e).2.1; omega, (h3 ad e).2.2⟩⟩, ?_⟩
  exact ((Off.of S kA).trans h4 fun _ h => .inl h).trans ho fun q hq => .inr (by omega)
set_option maxHeartbeats 8000000 in
/-- Run: a reply in a block of its own, which is read at the end -/
theorem prunR15_ok (c e : Int) (rd : Bool) (s : ByteArray) (hL : Lw w) (h : (PN b n).p S w) (hi : NdI k n) (hk : k ≤ 800) (hs : Sm s) (hc : I64n c) :
    Calls Tryz.prog 28 #[.pointer (some ⟨b, 0, none⟩), .int .i64 c, .int .u64 e, .bool rd, .string s] w fun e' w' => ∃ A m d, e' = .returned (rpV (runNd n c e rd s).1 A m d) ∧ XR w' A m (runNd n c e rd s).1.ts ∧ Told1 (PN b (runNd n c e rd s).2) S A w w' := by
  have kA := kp_new w (.cells #[.int .i64 0, .int .u64 0, .int .u64 0, .slice none 0 0] 68)
  have hnew := heap_alloc_new w (.cells #[.int .i64 0, .int .u64 0, .int .u64 0, .slice none 0 0] 68)
  have hzA : (w.alloc (.cells #[.int .i64 0, .int .u64 0, .int .u64 0, .slice none 0 0] 68)).heap.size = w.heap.size + 1 := by simp
  obtain ⟨hep, hpl⟩ := run15_of n c e rd s
  have hlg : (runNd n c e rd s).2.lg.length ≤ 200 := (hi.run (e := e) (rd := rd) hs hc.1 hc.2).lg
  have hR := prun15_ok c e rd s (hL.next kA) (Thing.next h kA) hi hk hs hc
  have HB := Lib.hid ((PN b n).lt h)
  generalize (runNd n c e rd s).2 = n2 at *
  generalize (runNd n c e rd s).1 = r1 at *
  obtain ⟨er, ep, pl, ts⟩ := r1
  dsimp only at hep hpl hR
  subst hep hpl
  obtain ⟨wA, hwA⟩ : ∃ y, w.alloc (.cells #[.int .i64 0, .int .u64 0, .int .u64 0, .slice none 0 0] 68) = y := ⟨_, rfl⟩
  obtain ⟨rb, hrb⟩ : ∃ y, w.heap.size = y := ⟨_, rfl⟩
  rw [hwA] at kA hnew hzA hR
  rw [hrb] at hnew hzA
  have HR := Lib.hid hR
  have HWA := Lib.hid hwA
  have HRB := Lib.hid hrb
  have HKA := Lib.hid kA
  have HNEW := Lib.hid hnew
  have HZA := Lib.hid hzA
  clear h hi hR hwA hrb kA hnew hzA
  go_enter Tryz.func28, Tryz.ntmps28
  go_wp2_with fail
  rw [HWA.out, HRB.out]
  refine HR.out.mono ?_
  rintro e3 w3 ⟨A, m, d, rfl, hxr, ht⟩
  obtain ⟨⟨S', hp, hS', hA⟩, hof⟩ := id ht
  obtain ⟨cb, bm, AL, nl, cl, W, col, hx⟩ := hp
  obtain ⟨_, c1, _, c3, _⟩ := hx.tops
  have hr3 : w3.heap[rb]? = some (.cells #[.int .i64 0, .int .u64 0, .int .u64 0, .slice none 0 0] 68 (0, 0)) := (hof.block rb (by have := HZA.out; omega) (fun h => by have := HB.out rb h; have := HRB.out; omega)).trans HNEW.out
  obtain ⟨r0, f0⟩ := cellsAt hr3 0 (v := .int .i64 0) rfl
  obtain ⟨r1, f1⟩ := cellsAt hr3 1 (v := .int .u64 0) rfl
  obtain ⟨r2, f2⟩ := cellsAt hr3 2 (v := .int .u64 0) rfl
  obtain ⟨r3, f3⟩ := cellsAt hr3 3 (v := .slice none 0 0) rfl
  have hnl := hx.llen
  have hnl2 : nl ≤ 200 := by rw [← hnl]; exact hlg
  have hwp : IntKind.u64.wrap (nl : Int) = nl := by rw [IntKind.wrap_u64]; omega
  have hbr : b ≠ rb := fun e => by
    rcases hS' b hx.sb.1 with h | h
    · have := HB.out b h; have := HRB.out; omega
    · have := HZA.out; omega
  have HT := Lib.hid ht
  have HXR := Lib.hid hxr
  have HAb : Hid (∀ ad, A = some ad → ad.block ≠ rb) := Lib.hid fun ad e h => by have := (hA ad e).1; have := HZA.out; omega
  have HNL := Lib.hid hnl
  clear hx hof hA hS' ht hxr hr3 HR hnl
  go_wp2_with fail
  go_region
  all_goals
    go_wp2_with fail
    have hof : Off (fun k => k = rb) w3 _ := ((((Off.refl (fun k => k = rb) w3).setCell (p := ⟨rb, 0, none⟩) (.inl rfl) (.int .i64 er)).setCell (p := ⟨rb, 1, none⟩) (.inl rfl) (.int .u64 n2.ep)).setCell (p := ⟨rb, 2, none⟩) (.inl rfl) (.int .u64 nl)).setCell (p := ⟨rb, 3, none⟩) (.inl rfl) (.slice A m d)
    refine bodyPost_ret (v := .agg #[.int .i64 er, .int .u64 n2.ep, .int .u64 nl, .slice A m d]) ?_ rfl ⟨A, m, d, ?_, HXR.out.offO hof.drew (fun ad e => HAb.out ad e), HT.out.reply HKA.out HRB.out HZA.out HB.out hof.drew⟩
    · rw [results_cell1 rfl]
      go_simp
    · unfold rpV
      rw [HNL.out]
end
end

/- The landed node: entries compared, alike, slices.Clone at entries, Log: contracts. -/
section
open Go.RowKit Go.Maps Go.WideMaps
set_option maxRecDepth 100000

theorem eql_entsN (T : TypeId) (hT : T = 65) (k k' : Int) (t t' : ByteArray) (w : World) : (binOp .eql T (.agg #[.int .u64 k, .string t]) (.agg #[.int .u64 k', .string t'])).run Tryz.prog w = .ok (.bool (decide ((⟨k, t⟩ : Lg) = ⟨k', t'⟩))) w := by
  subst hT
  have hf : (Tryz.prog.fieldsOf 65) = (match Tryz.prog.underlying 65 with | some (.struct fs) => fs | _ => #[]) := rfl
  have hu := Tryz.underlying65
  rw [hu] at hf
  rw [run_eql_struct, run_equalIn_agg (P := Tryz.prog) w 9999 _ _ _ (by rw [hf]; exact hu) (by kernel_rfl), hf]
  have h9 := Tryz.underlying9
  have hz9 := Tryz.sizeOf9
  have ha9 := Tryz.isAgg9
  have h8 := Tryz.underlying30
  have hz8 := Tryz.sizeOf30
  have ha8 := Tryz.isAgg30
  have p1 : ∀ (x : Int) (u : ByteArray) (w : World), (part 30 #[.int .u64 x, .string u] 0).run Tryz.prog w = .ok (.int .u64 x) w := fun x u w => by simp [part, hz8, ha8]
  have p2 : ∀ (x : Int) (u : ByteArray) (w : World), (part 9 #[.int .u64 x, .string u] 1).run Tryz.prog w = .ok (.string u) w := fun x u w => by simp [part, hz9, ha9]
  have e1 : ∀ (x y : Int) (w : World), (Op.equalIn 9999 30 (.int .u64 x) (.int .u64 y)).run Tryz.prog w = .ok (x == y) w := fun x y w => run_equalIn_int w 9998 30 .u64 .u64 x y h8
  have e2 : ∀ (x y : ByteArray) (w : World), (Op.equalIn 9999 9 (.string x) (.string y)).run Tryz.prog w = .ok (x.toList == y.toList) w := fun x y w => run_equalIn_string w 9998 9 x y h9
  have ht : t.toList = t'.toList ↔ t = t' := ⟨bytes_ext, fun h => by rw [h]⟩
  by_cases h1 : k = k'
  · by_cases h2 : t = t'
    · simp [Op.eqFields, p1, p2, e1, e2, h1, h2]
    · simp [Op.eqFields, p1, p2, e1, e2, ht, h1, h2]
  · simp [Op.eqFields, p1, p2, e1, e2, h1]
set_option maxHeartbeats 4000000 in
theorem palike_ok (A A' : Option Addr) (n n' c c' : Nat) (xs ys : List Lg) (w : World) (hx : LR w A n xs) (hy : LR w A' n' ys) (hn : n ≤ 1000000) :
    Calls Tryz.prog 47 #[.slice A n c, .slice A' n' c'] w fun e w' => e = .returned (.int .i64 (sameLg xs ys)) ∧ ∃ m, w' = w.drewN m := by
  have hlx := Lib.hid hx.len
  have hly := Lib.hid hy.len
  obtain ⟨z, hmn, hz⟩ : ∃ z : Nat, (∀ (u : World) (ts : Array TypeId) (ty : TypeId), (Builtin.min_ ts ty #[.int .i64 (n : Int), .int .i64 (n' : Int)]).run Tryz.prog u = .ok (.int .i64 (z : Int)) u) ∧ z = min n n' := ⟨_, fun u ts ty => by
    rw [run_min_int2 (P := Tryz.prog) (w := u) ts ty .i64 .i64 (n : Int) n']
    congr 2
    split <;> omega, rfl⟩
  have HZ := Lib.hid hz
  have hzn : z ≤ 1000000 := by omega
  clear hz
  go_enter Tryz.func47, Tryz.ntmps47
  go_wp2_with fail
  go_loopw [5] (fun i wr => ∃ k m : Nat, k ≤ z ∧ i = .int .i64 k ∧ Hid (xs.take k = ys.take k) ∧ wr = w.drewN m) (fun i _ => z - (intOf i).toNat)
  case atStart => exact ⟨0, 0, Nat.zero_le _, rfl, Lib.hid (by simp), rfl⟩
  case round =>
    obtain ⟨k, m, hk, rfl, he, hw⟩ := hrel
    have hx' : LR wr A n xs := by subst hw; exact hx.next (kp_drewN _ _)
    have hy' : LR wr A' n' ys := by subst hw; exact hy.next (kp_drewN _ _)
    have HW := Lib.hid hw
    clear hw hx hy
    by_cases hlt : k < z
    · have hkn : k < n := by have := HZ.out; omega
      have hkn' : k < n' := by have := HZ.out; omega
      have hkx : k < xs.length := by rw [hlx.out]; omega
      have hky : k < ys.length := by rw [hly.out]; omega
      obtain ⟨ad, rfl, _, hc⟩ := hx'.at_ hkx
      obtain ⟨ad', rfl, _, hc'⟩ := hy'.at_ hky
      obtain ⟨c0, c1⟩ := hc _ (Below.refl _ _)
      obtain ⟨d0, d1⟩ := hc' _ (Below.refl _ _)
      clear hc hc' hx' hy'
      have hE := fun u => eql_entsN 65 rfl xs[k].e ys[k].e xs[k].t ys[k].t u
      have hi0 : (0 : Int) ≤ (k : Int) := by omega
      have hi1 : (k : Int) < (n : Int) := by omega
      have hi2 : (k : Int) < (n' : Int) := by omega
      have hi3 : (k : Int) < (z : Int) := by omega
      by_cases hee : xs[k] = ys[k]
      · have hsn : Hid (xs.take (k + 1) = ys.take (k + 1)) := Lib.hid (take_same6 hkx hky he.out hee)
        have hd : decide ((⟨xs[k].e, xs[k].t⟩ : Lg) = ⟨ys[k].e, ys[k].t⟩) = true := decide_eq_true (by exact hee)
        rw [hd] at hE
        clear hee hd
        generalize xs[k].e = x at *
        generalize ys[k].e = y at *
        generalize xs[k].t = s at *
        generalize ys[k].t = t at *
        go_wp2_with fail
        go_quiet (fail)
        go_wp2_with fail
        go_roundw
        case rel => exact ⟨k + 1, m + nq, by omega, by go_num, hsn, by rw [HW.out, World.drewN_drewN]⟩
        case measure => simp [intOf]; omega
      · have hS : Hid (sameLg xs ys = k) := Lib.hid (sameLg_of (Nat.le_of_lt hkx) (Nat.le_of_lt hky) he.out fun _ _ => hee)
        have hd : decide ((⟨xs[k].e, xs[k].t⟩ : Lg) = ⟨ys[k].e, ys[k].t⟩) = false := decide_eq_false (by exact hee)
        rw [hd] at hE
        clear hee hd
        generalize xs[k].e = x at *
        generalize ys[k].e = y at *
        generalize xs[k].t = s at *
        generalize ys[k].t = t at *
        go_wp2_with fail
        go_quiet (fail)
        go_wp2_with fail
        go_ret
        exact ⟨by rw [hS.out]; rfl, m + nq, by rw [HW.out, World.drewN_drewN]⟩
    · obtain rfl : k = z := by omega
      have hS : Hid (sameLg xs ys = k) := Lib.hid (sameLg_of (by rw [hlx.out]; have := HZ.out; omega) (by rw [hly.out]; have := HZ.out; omega) he.out fun ha hb => by
        rw [hlx.out] at ha
        rw [hly.out] at hb
        have := HZ.out
        omega)
      have hi3 : ¬ (k : Int) < (k : Int) := by omega
      go_wp2_with fail
      go_quiet (fail)
      go_wp2_with fail
      go_ret
      exact ⟨by rw [hS.out]; rfl, m + nq, by rw [HW.out, World.drewN_drewN]⟩
theorem cloneE_ok (A : Option Addr) (n c : Nat) (ss : List Lg) (w : World) (h : LR w A n ss) (hn : n ≤ 1000000) :
    Calls Tryz.prog 38 #[.slice A n c] w fun e w' => ∃ A' c', e = .returned (.slice A' n c') ∧ w'.ownsRow w.heap.size 65 2 (.slice A' n c') n (lgC ss) ∧ n ≤ c' ∧ Below w.heap.size w w' := by
  obtain ⟨i0, hi, hz0, hz1, hz2⟩ := info_parts entinfo15
  have hq := fun u => Lib.run_eql_slice_nil (P := Tryz.prog) u 57 65 A n c 0 0 Tryz.underlying57
  have hl := h.len
  cases A with
  | none =>
    obtain rfl : ss = [] := by
      rcases h.rd with h0 | ⟨_, h0, _⟩
      · have := lgC_length ss
        rw [h0] at this
        exact List.eq_nil_of_length_eq_zero (by simp at this; omega)
      · cases h0
    obtain rfl : n = 0 := by simpa using hl.symm
    go_enter Tryz.func38, Tryz.ntmps38
    go_wp2_with fail
    go_ret
    exact ⟨none, 0, rfl, World.ownsRow_nil _ _ _ _, Nat.le_refl _, Below.refl _ _⟩
  | some ad =>
    have ho := own_new_s w w.heap.size 2 65 0 [] rfl (Nat.le_refl _) (Nat.zero_le _)
    have hk := kp_new w (.cells #[] 65)
    have hr := h.next hk
    generalize hw : w.alloc (.cells #[] 65) = w1 at *
    have HW := Lib.hid hw
    have ho' : w1.ownsRow w.heap.size 65 2 (.slice (some ⟨w.heap.size, 0, none⟩) 0 0) 0 [] := ho
    clear hw
    have hb1 := hk.size
    have HL := Lib.hid hl
    clear hl
    go_enter Tryz.func38, Tryz.ntmps38
    go_wp2_with (at_builtin; rw [HW.out]; refine wpList_append_rds rfl _ _ _ rfl w.heap.size 65 i0 _ 2 24 Tryz.underlying57 hi hz0 hz1 hz2 rfl (by decide) _ 0 _ rfl ho' w1.heap.size _ _ _ (lgC ss) rfl (by rw [lgC_length, hr.len]) hr.rd (lgC_one _) (by unfold maxLen; omega) (by omega) hb1 ?_; intro v3 w3 hown3 hg3; obtain ⟨A3, c3, rfl, hcap3, _⟩ := own_form_s hown3)
    go_ret
    refine ⟨A3, c3, rfl, ?_, by omega, hk.trans (below_own_s ho' hg3 hb1)⟩
    simpa using hown3
section
variable {b : Nat} {n : Nd} {S : Nat → Prop} {w w' : World} {k : Nat}
theorem plog15_ok (h : (PN b n).p S w) (hi : NdI k n) :
    Calls Tryz.prog 21 #[.pointer (some ⟨b, 0, none⟩)] w fun e w' => ∃ A m d, e = .returned (.slice A m d) ∧ m ≤ d ∧ LR w' A m n.lg ∧ Told1 (PN b n) S A w w' := by
  have HT := Lib.hid h
  obtain ⟨cb, bm, AL, nl, cl, W, col, hx⟩ := h
  obtain ⟨_, _, _, c3, _⟩ := hx.tops
  have HC := Lib.hid (cloneE_ok AL nl cl n.lg w hx.lr (by have := hx.llen; have := hi.lg; omega))
  clear hx hi
  go_enter Tryz.func21, Tryz.ntmps21
  go_wp2_with fail
  refine HC.out.mono ?_
  rintro e w2 ⟨A, c, rfl, ho, hc, hb⟩
  have HF := Lib.hid (And.intro ho (And.intro hc hb))
  clear HC ho hc hb
  go_wp2_with fail
  go_ret
  obtain ⟨ho, hc, hb⟩ := HF.out
  exact ⟨A, nl, c, rfl, hc, LR.of_own ho, ⟨⟨S, Thing.next HT.out hb, fun _ h => .inl h, fun ad e => ⟨(own_blk15 ho ad e).1, (own_blk15 ho ad e).2, fun hS => by have := (PN b n).lt HT.out _ hS; have := (own_blk15 ho ad e).1; omega⟩⟩, Off.of S hb⟩⟩
end
end

/- The landed node: Copy, of another node and of itself: contracts. -/
section
open Go.RowKit Go.Maps Go.WideMaps
set_option maxRecDepth 100000

theorem entsize15 : (Tryz.prog.info? (Tryz.prog.elem 57)).map (·.size) = some 2 := by kernel_rfl
theorem cutN15 (A : Option Addr) {n c k : Nat} (hk : k ≤ n) (hc : n ≤ c) (u : World) : (Instr.slice 57 (.slice A n c) none (some (.int .i64 (k : Int))) none).run Tryz.prog u = .ok (.slice A k c) u := by
  obtain ⟨ti, hti, hsz⟩ := Option.map_eq_some_iff.1 entsize15
  rw [run_slice_h u 57 A n c (by kernel_rfl) .i64 k (by omega) (by omega)]
  cases A with
  | none => simp [sizeOf, typeInfo, hti, hsz, sliced, Result.andThen]
  | some ad => simp [sizeOf, typeInfo, hti, hsz, sliced, Result.andThen, Addr.add]
theorem own_takeN {w : World} {base n c : Nat} {e : TypeId} {A : Option Addr} {l : List Lg} (h : w.ownsRow base e 2 (.slice A n c) n (lgC l)) {k : Nat} (hk : k ≤ n) : w.ownsRow base e 2 (.slice A k c) k (lgC (l.take k)) := by
  have hl := h.1
  rw [lgC_length] at hl
  refine ⟨by rw [lgC_length, List.length_take]; omega, ?_⟩
  rcases h.2 with ⟨h1, h2⟩ | ⟨g, cap, cur, h1, h2, h3, h4, h5, h6, h7⟩
  · injection h1 with a b d
    subst a b d
    obtain rfl : k = 0 := by omega
    exact .inl ⟨rfl, rfl⟩
  · injection h1 with a _ d
    subst a d
    refine .inr ⟨g, c, cur, rfl, h2, h3, by omega, h5, h6, ?_⟩
    rw [lgC_take, ← h7, List.take_take, Nat.min_eq_left (by omega)]
theorem max0 (m : Int) (u : World) (ts : Array TypeId) (ty : TypeId) : (Builtin.max_ ts ty #[.int .i64 m, .int .i64 0]).run Tryz.prog u = .ok (.int .i64 (m.toNat : Nat)) u := by
  rw [run_max_int2 (P := Tryz.prog) (w := u) ts ty .i64 .i64 m 0]
  congr 2
  split <;> omega
theorem minN (a b : Nat) (u : World) (ts : Array TypeId) (ty : TypeId) : (Builtin.min_ ts ty #[.int .i64 (a : Int), .int .i64 (b : Int)]).run Tryz.prog u = .ok (.int .i64 ((min a b : Nat) : Int)) u := by
  rw [run_min_int2 (P := Tryz.prog) (w := u) ts ty .i64 .i64 a b]
  congr 2
  split <;> omega
section
variable {b f : Nat} {n fn : Nd} {S : Nat → Prop} {w : World} {k kf : Nat}
theorem Turn.over {Z : Thing} {S' : Nat → Prop} {w' w'' : World} (h2 : ∀ k, S' k → S k ∨ w.heap.size ≤ k) (h3 : Off S w w') (k : Turn Z S' w' w'') : Turn Z S w w'' := by
  obtain ⟨⟨S'', k1, k2⟩, k3⟩ := k
  have hz := h3.size
  exact ⟨⟨S'', k1, fun i hi => (k2 i hi).elim (fun e => h2 i e) (fun e => .inr (by omega))⟩, h3.trans k3 h2⟩
theorem PN.tops (h : (PN b n).p S w) : (∃ x, w.cell? ⟨b, 0, none⟩ = some x) ∧ w.cell? ⟨b, 1, none⟩ = some (.int .u64 n.ep) ∧ w.cell? ⟨b, 2, none⟩ = some (.bool n.ld) ∧ True := by
  obtain ⟨cb, bm, AL, nl, cl, W, col, hx⟩ := h
  obtain ⟨h0, h1, h2, _⟩ := hx.tops
  exact ⟨⟨_, h0⟩, h1, h2, trivial⟩
/-- the other node as a Copy finds it, in each world that the call comes to -/
def From (f : Nat) (fn : Nd) (K : World → Prop) : Prop := ∃ A m c, m ≤ c ∧ ∀ u, K u → u.cell? ⟨f, 1, none⟩ = some (.int .u64 fn.ep) ∧ u.cell? ⟨f, 3, none⟩ = some (.slice A m c) ∧ LR u A m fn.lg
set_option maxHeartbeats 16000000 in
theorem pcopyG_ok (m : Int) (h : (PN b n).p S w) (hi : NdI k n) (hif : NdI kf fn) (K : World → Prop) (hF : From f fn K) (hK0 : ∀ u, Below w.heap.size w u → K u) (hK1 : n.ep < fn.ep → ∀ u, Off S w u → K u) :
    Calls Tryz.prog 31 #[.pointer (some ⟨b, 0, none⟩), .pointer (some ⟨f, 0, none⟩), .int .i64 m] w fun e' w' => e' = .returned (.int .i64 (copyNd n fn m).1) ∧ Turn (PN b (copyNd n fn m).2) S w w' := by
  obtain ⟨Af, nf, cf, hfc, hfr⟩ := hF
  have HT := Lib.hid h
  have HFR := Lib.hid hfr
  obtain ⟨_, z1, z3, _⟩ : True ∧ _ := ⟨trivial, hfr w (hK0 w (Below.refl _ _))⟩
  have HK0 := Lib.hid hK0
  have HK1 := Lib.hid hK1
  obtain ⟨cb, bm, AL, nl, cl, W, col, hx⟩ := h
  obtain ⟨_, y1, y2, _⟩ := hx.tops
  clear hx hfr hK0 hK1
  by_cases hno : fn.ep < n.ep ∨ (fn.ep = n.ep ∧ n.ld = true)
  · rw [show copyNd n fn m = (0, n) from if_pos hno]
    rcases hno with hno | ⟨hno, hld⟩
    · go_enter Tryz.func31, Tryz.ntmps31
      go_wp2_with fail
      go_quiet (fail)
      go_wp2_with fail
      go_ret
      exact ⟨rfl, Turn.same HT.out (kp_drewN _ _)⟩
    · rw [hld] at y2
      have hq : (fn.ep == n.ep) = true := by simpa using hno
      have hq2 : ¬ fn.ep < n.ep := by omega
      go_enter Tryz.func31, Tryz.ntmps31
      go_wp2_with fail
      go_quiet (fail)
      go_wp2_with fail
      go_ret
      exact ⟨rfl, Turn.same HT.out (kp_drewN _ _)⟩
  · rw [show copyNd n fn m = (((manyNd n fn m : Nat) : Int), { turnNd n fn with lg := fn.lg.take (sameLg n.lg fn.lg + manyNd n fn m) }) from if_neg hno]
    have hq2 : ¬ fn.ep < n.ep := fun h => hno (.inl h)
    by_cases hlt : n.ep < fn.ep
    rotate_left
    · have hld : n.ld = false := by
        cases h : n.ld with
        | false => rfl
        | true => exact absurd (.inr ⟨by omega, h⟩) hno
      rw [hld] at y2
      have hq : (fn.ep == n.ep) = true := by simp; omega
      go_enter Tryz.func31, Tryz.ntmps31
      go_wp2_with fail
      go_quiet (fail)
      obtain ⟨w1, hw1⟩ : ∃ y, y = w.drewN nq := ⟨_, rfl⟩
      rw [← hw1]
      have hb1 : Below w.heap.size w w1 := hw1 ▸ kp_drewN _ _
      obtain ⟨_, u1, u2, _⟩ := PN.tops (Thing.next HT.out hb1)
      rw [hld] at u2
      obtain ⟨t1, t3, _⟩ := HFR.out w1 (HK0.out w1 hb1)
      have HB1 := Lib.hid hb1
      clear hw1 hb1
      go_wp2_with fail
      go_quiet (fail)
      obtain ⟨w2, hw2⟩ : ∃ y, y = w1.drewN nq := ⟨_, rfl⟩
      rw [← hw2]
      have hb2 : Below w.heap.size w w2 := HB1.out.trans ((hw2 ▸ kp_drewN _ _ : Below w1.heap.size w1 w2).mono HB1.out.size)
      obtain ⟨w3, hw3⟩ : ∃ y, y = w2 := ⟨_, rfl⟩
      rw [← hw3]
      subst hw3
      have HP : Hid (∃ S2, (PN b (turnNd n fn)).p S2 w3 ∧ (∀ z, S2 z → S z ∨ w.heap.size ≤ z) ∧ Off S w w3) := Lib.hid ⟨S, by unfold turnNd; rw [if_neg (by omega)]; exact Thing.next HT.out hb2, fun _ h => .inl h, Off.of S hb2⟩
      have HKW : Hid (∀ u, Below w3.heap.size w3 u → K u) := Lib.hid fun u hu => HK0.out u (hb2.trans (hu.mono hb2.size))
      clear hw2 hb2 u1 u2 t1 t3
      obtain ⟨S2, hp2, hS2, hof2⟩ := HP.out
      obtain ⟨cb2, bm2, A2, n2, c2, W2, col2, hx2⟩ := hp2
      have hlg2 : (turnNd n fn).lg = n.lg := by unfold turnNd; split <;> rfl
      obtain ⟨_, v3, hlrf⟩ := HFR.out w3 (HKW.out w3 (Below.refl _ _))
      obtain ⟨_, _, _, x3, _⟩ := hx2.tops
      have hn2 : n2 ≤ 200 := by rw [← hx2.llen, hlg2]; exact hi.lg
      have hnf : nf ≤ 200 := by rw [← hlrf.len]; exact hif.lg
      have HAL : Hid (∀ u, Below w3.heap.size w3 u → Calls Tryz.prog 47 #[.slice A2 n2 c2, .slice Af nf cf] u fun e w' => e = .returned (.int .i64 (sameLg n.lg fn.lg)) ∧ ∃ m, w' = u.drewN m) := Lib.hid fun u hu => palike_ok A2 Af n2 nf c2 cf n.lg fn.lg u (hlg2 ▸ hx2.lr.next hu) (hlrf.next hu) (by omega)
      have HX2 := Lib.hid hx2
      have HPS := Lib.hid (And.intro hS2 hof2)
      obtain ⟨j, hj⟩ : ∃ x, sameLg n.lg fn.lg = x := ⟨_, rfl⟩
      have hjn : j ≤ n2 := by rw [← hx2.llen, hlg2, ← hj]; exact (sameLg_le _ _).1
      have hjf : j ≤ nf := by rw [← hlrf.len, ← hj]; exact (sameLg_le _ _).2
      rw [hj] at HAL
      have HJ := Lib.hid hj
      have HLG2 := Lib.hid hlg2
      clear hx2 hS2 hof2 hj hlrf hlg2 HP
      go_wp2_with fail
      go_quiet (first | (go_at_call 47; exact Calls.quiet_of (HAL.out _ (kp_drewN _ _))))
      obtain ⟨w4, hw4⟩ : ∃ y, y = w3.drewN nq := ⟨_, rfl⟩
      rw [← hw4]
      have hb4 : Below w3.heap.size w3 w4 := hw4 ▸ kp_drewN _ _
      have hx4 := HX2.out.keep (fun q hq => hb4.block q (HX2.out.lt q hq)) hb4.size
      obtain ⟨_, _, _, x4, _⟩ := hx4.tops
      obtain ⟨_, v4, hlr4⟩ := HFR.out w4 (HKW.out w4 hb4)
      obtain ⟨r, hr⟩ : ∃ x, nf - j = x := ⟨_, rfl⟩
      obtain ⟨cr, hcr⟩ : ∃ x, cf - j = x := ⟨_, rfl⟩
      obtain ⟨mt, hmt⟩ : ∃ x, m.toNat = x := ⟨_, rfl⟩
      obtain ⟨q, hq⟩ : ∃ x, min r mt = x := ⟨_, rfl⟩
      have hmx := max0 m
      have hmn := minN r mt
      rw [hmt] at hmx
      rw [hq] at hmn
      have hqr : q ≤ r := by omega
      have hrc : r ≤ cr := by omega
      obtain ⟨Ad, hcut1, hlr5⟩ := hlr4.cut1 57 Tryz.underlying57 entsize15 (i := j) hjf hfc
      rw [hr, hcr] at hcut1
      rw [hr] at hlr5
      obtain ⟨Ae, hcut2, hlr6⟩ := hlr5.cut0 (c := cr) 57 Tryz.underlying57 entsize15 (j := q) hqr hrc
      have hnc2 : n2 ≤ c2 := by
        obtain ⟨_, _, h1, h2, _⟩ := own_form_s hx4.lg
        injection h1 with _ _ h1
        omega
      have hcut3 := cutN15 A2 (n := n2) (c := c2) (k := j) hjn hnc2
      obtain ⟨i0, hi0, hz0, hz1, hz2⟩ := info_parts entinfo15
      have hown := own_takeN hx4.lg hjn
      obtain ⟨A5, c5, w5, hrun, hown5, hg5, hwh⟩ := run_append_many (P := Tryz.prog) 57 57 65 i0 _ 2 24 Tryz.underlying57 hi0 hz0 hz1 hz2 rfl (by omega) hown _ Ae q cr _ (by rw [lgC_length, hlr6.len]) hlr6.rd (lgC_one _) (by omega) (by omega)
      have hl5 : (turnNd n fn).lg.take j ++ (fn.lg.drop j).take q = fn.lg.take (j + q) := by
        rw [List.take_add, HLG2.out, ← HJ.out, sameLg_take]
      rw [← lgC_append, hl5] at hown5
      have hst := hx4.stored (Below.refl _ _) hown5 hg5 hwh
      have hf5 := (cellsAt (hst.2.2.trans hx4.top) 3 (v := .slice A2 n2 c2) rfl).2
      have hv5 := (cellsAt (hst.2.2.trans hx4.top) 3 (v := .slice A2 n2 c2) rfl).1
      have hqm : q = manyNd n fn m := by
        unfold manyNd
        rw [HJ.out, hmt, ← hq, ← hr, (HFR.out w3 (HKW.out w3 (Below.refl _ _))).2.2.len]
      have hfin : Turn (PN b { turnNd n fn with lg := fn.lg.take (j + q) }) S w (w5.setCell ⟨b, 3, none⟩ (.slice A5 (j + q) c5)) := by
        refine Turn.over HPS.out.1 (HPS.out.2.trans (Off.of (fun _ => False) hb4) fun _ h => h.elim) ⟨⟨_, ⟨_, _, _, _, _, _, _, hst.1⟩, fun z hz => hz.imp id (·.1)⟩, hst.2.1.wide fun z hz => hz.elim (fun e => e ▸ HX2.out.sb.1) (·.1)⟩
      have HF := Lib.hid hfin
      have HQM := Lib.hid hqm
      have HRUN := Lib.hid hrun
      clear hx4 hlr4 hlr5 hlr6 hown hown5 hg5 hwh hst hqm hfin hl5 hrun hr hcr hmt hq hb4 hw4
      go_wp2_with (at_builtin; refine wpList_append_run rfl _ _ _ rfl _ _ rfl rfl HRUN.out ?_)
      go_ret
      refine ⟨by rw [← HQM.out]; rfl, ?_⟩
      rw [← HQM.out, HJ.out]
      exact HF.out
    · have hq : (fn.ep == n.ep) = false := by simp; omega
      go_enter Tryz.func31, Tryz.ntmps31
      go_wp2_with fail
      go_quiet (fail)
      obtain ⟨w1, hw1⟩ : ∃ y, y = w.drewN nq := ⟨_, rfl⟩
      rw [← hw1]
      have hb1 : Below w.heap.size w w1 := hw1 ▸ kp_drewN _ _
      obtain ⟨_, u1, u2, _⟩ := PN.tops (Thing.next HT.out hb1)
      obtain ⟨t1, t3, _⟩ := HFR.out w1 (HK0.out w1 hb1)
      have HB1 := Lib.hid hb1
      clear hw1 hb1
      go_wp2_with fail
      go_quiet (fail)
      obtain ⟨w2, hw2⟩ : ∃ y, y = w1.drewN nq := ⟨_, rfl⟩
      rw [← hw2]
      have hb2 : Below w.heap.size w w2 := HB1.out.trans ((hw2 ▸ kp_drewN _ _ : Below w1.heap.size w1 w2).mono HB1.out.size)
      obtain ⟨s1, s3, _⟩ := HFR.out w2 (HK0.out w2 hb2)
      have HEN := Lib.hid (penter_ok fn.ep false (Thing.next HT.out hb2))
      have HB2 := Lib.hid hb2
      clear hw2 hb2 u1 u2
      go_wp2_with fail
      refine HEN.out.mono ?_
      rintro e w3 ⟨rfl, ht⟩
      have HP : Hid (∃ S2, (PN b (turnNd n fn)).p S2 w3 ∧ (∀ z, S2 z → S z ∨ w.heap.size ≤ z) ∧ Off S w w3) := Lib.hid (by
        have ht2 := ht.ahead HB2.out
        obtain ⟨⟨S2, k1, k2⟩, k3⟩ := ht2
        exact ⟨S2, by unfold turnNd; rw [if_pos hlt]; exact k1, k2, k3⟩)
      have HKW : Hid (∀ u, Below w3.heap.size w3 u → K u) := Lib.hid fun u hu => HK1.out hlt u (by
        obtain ⟨_, _, _, k3⟩ := HP.out
        exact k3.trans (Off.of (fun _ => False) hu) fun _ h => h.elim)
      clear ht HEN s1 s3 t1 t3
      obtain ⟨S2, hp2, hS2, hof2⟩ := HP.out
      obtain ⟨cb2, bm2, A2, n2, c2, W2, col2, hx2⟩ := hp2
      have hlg2 : (turnNd n fn).lg = n.lg := by unfold turnNd; split <;> rfl
      obtain ⟨_, v3, hlrf⟩ := HFR.out w3 (HKW.out w3 (Below.refl _ _))
      obtain ⟨_, _, _, x3, _⟩ := hx2.tops
      have hn2 : n2 ≤ 200 := by rw [← hx2.llen, hlg2]; exact hi.lg
      have hnf : nf ≤ 200 := by rw [← hlrf.len]; exact hif.lg
      have HAL : Hid (∀ u, Below w3.heap.size w3 u → Calls Tryz.prog 47 #[.slice A2 n2 c2, .slice Af nf cf] u fun e w' => e = .returned (.int .i64 (sameLg n.lg fn.lg)) ∧ ∃ m, w' = u.drewN m) := Lib.hid fun u hu => palike_ok A2 Af n2 nf c2 cf n.lg fn.lg u (hlg2 ▸ hx2.lr.next hu) (hlrf.next hu) (by omega)
      have HX2 := Lib.hid hx2
      have HPS := Lib.hid (And.intro hS2 hof2)
      obtain ⟨j, hj⟩ : ∃ x, sameLg n.lg fn.lg = x := ⟨_, rfl⟩
      have hjn : j ≤ n2 := by rw [← hx2.llen, hlg2, ← hj]; exact (sameLg_le _ _).1
      have hjf : j ≤ nf := by rw [← hlrf.len, ← hj]; exact (sameLg_le _ _).2
      rw [hj] at HAL
      have HJ := Lib.hid hj
      have HLG2 := Lib.hid hlg2
      clear hx2 hS2 hof2 hj hlrf hlg2 HP
      go_wp2_with fail
      go_quiet (first | (go_at_call 47; exact Calls.quiet_of (HAL.out _ (kp_drewN _ _))))
      obtain ⟨w4, hw4⟩ : ∃ y, y = w3.drewN nq := ⟨_, rfl⟩
      rw [← hw4]
      have hb4 : Below w3.heap.size w3 w4 := hw4 ▸ kp_drewN _ _
      have hx4 := HX2.out.keep (fun q hq => hb4.block q (HX2.out.lt q hq)) hb4.size
      obtain ⟨_, _, _, x4, _⟩ := hx4.tops
      obtain ⟨_, v4, hlr4⟩ := HFR.out w4 (HKW.out w4 hb4)
      obtain ⟨r, hr⟩ : ∃ x, nf - j = x := ⟨_, rfl⟩
      obtain ⟨cr, hcr⟩ : ∃ x, cf - j = x := ⟨_, rfl⟩
      obtain ⟨mt, hmt⟩ : ∃ x, m.toNat = x := ⟨_, rfl⟩
      obtain ⟨q, hq⟩ : ∃ x, min r mt = x := ⟨_, rfl⟩
      have hmx := max0 m
      have hmn := minN r mt
      rw [hmt] at hmx
      rw [hq] at hmn
      have hqr : q ≤ r := by omega
      have hrc : r ≤ cr := by omega
      obtain ⟨Ad, hcut1, hlr5⟩ := hlr4.cut1 57 Tryz.underlying57 entsize15 (i := j) hjf hfc
      rw [hr, hcr] at hcut1
      rw [hr] at hlr5
      obtain ⟨Ae, hcut2, hlr6⟩ := hlr5.cut0 (c := cr) 57 Tryz.underlying57 entsize15 (j := q) hqr hrc
      have hnc2 : n2 ≤ c2 := by
        obtain ⟨_, _, h1, h2, _⟩ := own_form_s hx4.lg
        injection h1 with _ _ h1
        omega
      have hcut3 := cutN15 A2 (n := n2) (c := c2) (k := j) hjn hnc2
      obtain ⟨i0, hi0, hz0, hz1, hz2⟩ := info_parts entinfo15
      have hown := own_takeN hx4.lg hjn
      obtain ⟨A5, c5, w5, hrun, hown5, hg5, hwh⟩ := run_append_many (P := Tryz.prog) 57 57 65 i0 _ 2 24 Tryz.underlying57 hi0 hz0 hz1 hz2 rfl (by omega) hown _ Ae q cr _ (by rw [lgC_length, hlr6.len]) hlr6.rd (lgC_one _) (by omega) (by omega)
      have hl5 : (turnNd n fn).lg.take j ++ (fn.lg.drop j).take q = fn.lg.take (j + q) := by
        rw [List.take_add, HLG2.out, ← HJ.out, sameLg_take]
      rw [← lgC_append, hl5] at hown5
      have hst := hx4.stored (Below.refl _ _) hown5 hg5 hwh
      have hf5 := (cellsAt (hst.2.2.trans hx4.top) 3 (v := .slice A2 n2 c2) rfl).2
      have hv5 := (cellsAt (hst.2.2.trans hx4.top) 3 (v := .slice A2 n2 c2) rfl).1
      have hqm : q = manyNd n fn m := by
        unfold manyNd
        rw [HJ.out, hmt, ← hq, ← hr, (HFR.out w3 (HKW.out w3 (Below.refl _ _))).2.2.len]
      have hfin : Turn (PN b { turnNd n fn with lg := fn.lg.take (j + q) }) S w (w5.setCell ⟨b, 3, none⟩ (.slice A5 (j + q) c5)) := by
        refine Turn.over HPS.out.1 (HPS.out.2.trans (Off.of (fun _ => False) hb4) fun _ h => h.elim) ⟨⟨_, ⟨_, _, _, _, _, _, _, hst.1⟩, fun z hz => hz.imp id (·.1)⟩, hst.2.1.wide fun z hz => hz.elim (fun e => e ▸ HX2.out.sb.1) (·.1)⟩
      have HF := Lib.hid hfin
      have HQM := Lib.hid hqm
      have HRUN := Lib.hid hrun
      clear hx4 hlr4 hlr5 hlr6 hown hown5 hg5 hwh hst hqm hfin hl5 hrun hr hcr hmt hq hb4 hw4
      go_wp2_with (at_builtin; refine wpList_append_run rfl _ _ _ rfl _ _ rfl rfl HRUN.out ?_)
      go_ret
      refine ⟨by rw [← HQM.out]; rfl, ?_⟩
      rw [← HQM.out, HJ.out]
      exact HF.out
theorem PN.from (h : (PN f fn).p S w) : From f fn fun u => ∀ q, S q → u.heap[q]? = w.heap[q]? ∧ w.heap.size ≤ u.heap.size := by
  obtain ⟨cb, bm, AL, nl, cl, W, col, hx⟩ := h
  refine ⟨AL, nl, cl, ?_, fun u hu => ?_⟩
  · obtain ⟨_, _, h1, h2, _⟩ := own_form_s hx.lg
    injection h1 with _ _ h1
    omega
  · have h2 := hx.keep (fun q hq => (hu q hq).1) (hu _ hx.sb.1).2
    obtain ⟨_, h3, _, h4, _⟩ := h2.tops
    exact ⟨h3, h4, h2.lr⟩
theorem pcopy15_ok (m : Int) {T : Nat → Prop} (h : (PN b n).p S w) (hf : (PN f fn).p T w) (hd : ∀ k, S k → ¬ T k) (hi : NdI k n) (hif : NdI kf fn) :
    Calls Tryz.prog 31 #[.pointer (some ⟨b, 0, none⟩), .pointer (some ⟨f, 0, none⟩), .int .i64 m] w fun e' w' => e' = .returned (.int .i64 (copyNd n fn m).1) ∧ Turn (PN b (copyNd n fn m).2) S w w' :=
  pcopyG_ok m h hi hif _ (PN.from hf) (fun _ hu q hq => ⟨hu.block q ((PN f fn).lt hf q hq), hu.size⟩) (fun _ _ hu q hq => ⟨hu.block q ((PN f fn).lt hf q hq) (fun e => hd q e hq), hu.size⟩)
theorem pself15_ok (m : Int) (h : (PN b n).p S w) (hi : NdI k n) :
    Calls Tryz.prog 31 #[.pointer (some ⟨b, 0, none⟩), .pointer (some ⟨b, 0, none⟩), .int .i64 m] w fun e' w' => e' = .returned (.int .i64 (copyNd n n m).1) ∧ Turn (PN b (copyNd n n m).2) S w w' :=
  pcopyG_ok m h hi hi _ (PN.from h) (fun _ hu q hq => ⟨hu.block q ((PN b n).lt h q hq), hu.size⟩) (fun h2 => absurd h2 (Int.lt_irrefl _))
end
end

/- The landed node does what the laws ask of a node. -/
section
open Go.RowKit
set_option maxRecDepth 100000

theorem nodec_ok : NodeC PN where
  new := fun w _ => pnew15_ok w
  lead := fun _ _ _ e _ _ h _ _ => plead15_ok e h
  run := fun _ _ _ c e rd s _ _ hL h hi hk hs hc _ => prunR15_ok c e rd s hL h hi hk hs hc
  close := fun _ _ _ c _ _ h hi _ hc => pclose15_ok c hc hi.nd h
  copy := fun _ _ _ _ _ _ m _ _ _ h hf hd hi hif _ => pcopy15_ok m h hf hd hi hif
  self := fun _ _ _ m _ _ h hi _ => pself15_ok m h hi
  epoch := fun _ _ _ _ _ h _ => pepoch15_ok h
  leads := fun _ _ _ _ _ h _ => pleads15_ok h
  log := fun _ _ _ _ _ h hi => plog15_ok h hi
  table := fun _ _ _ _ _ hL h hi => (ptable15_ok h hL hi).mono fun _ _ ⟨A, m, c, h1, _, h2, h3⟩ => ⟨A, m, c, h1, h2, Turn.same h h3⟩
end
end Go.Proofs.YtaoegiohnebnhaaGreatDoor
