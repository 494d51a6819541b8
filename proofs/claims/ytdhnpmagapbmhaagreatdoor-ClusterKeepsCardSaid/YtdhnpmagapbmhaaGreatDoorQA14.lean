/-
  Contracts and plain functions that the law stands on, part 14 of 19.
-/
import Derived.Test.YtdhnpmagapbmhaaGreatDoorQA13
import Derived.Lib.SliceRun
import Derived.Deep.Cut
namespace Go.Proofs.YtdhnpmagapbmhaaGreatDoor
/- A cluster, plain: what was written and no promotion cut stands; what is read is told by the epoch and the place; what is copied in parts (no function of the program is named here). -/
section
open Go.RowKit
set_option maxRecDepth 100000

/-- an entry that was laid, with the epoch and the place that were told -/
structure Wr16 where
  x : Lg
  e : Int
  p : Int
instance : Inhabited Wr16 := ⟨⟨default, 0, 0⟩⟩
/-- no promotion to a later epoch, up to one, has cut it -/
def Uncut (ps : List Pr16) (e q E : Int) : Prop := ∀ p ∈ ps, e < p.e → p.e ≤ E → q ≤ p.c
/-- whoever leads has it at its place, if nothing cut it -/
def Good (c : Cu) (ps : List Pr16) (x : Lg) (e : Int) (q : Nat) : Prop := ∀ j, j < c.n → (c.ns j).ld = true → e ≤ (c.ns j).ep → Uncut ps e ((q : Int) + 1) (c.ns j).ep → (c.ns j).lg[q]? = some x
structure KI (c : Cu) (ps : List Pr16) (ws : List Wr16) : Prop where
  g : ∀ i, i < c.n → (c.ns i).ld = true → ∀ (q : Nat) (x : Lg), (c.ns i).lg[q]? = some x → Good c ps x (c.ns i).ep q
  w : ∀ w ∈ ws, w.e ≤ c.pm.e ∧ 1 ≤ w.p ∧ Good c ps w.x w.e (w.p - 1).toNat
  k2 : ∀ i, i < c.n → (c.ns i).ld = true → (c.ns i).ep < c.pm.e → ∃ p ∈ ps, p.e = (c.ns i).ep + 1 ∧ p.c ≤ (c.ns i).lg.length
  pe : ∀ p ∈ ps, p.e ≤ c.pm.e
theorem KI.new (n : Nat) : KI (newCu n) [] [] := by
  have h0 : (newCu n).ns 0 = ⟨1, true, [], []⟩ := rfl
  have hj : ∀ j, j ≠ 0 → (newCu n).ns j = newNd := fun j hj => upd3_ne (fun _ => newNd) (leadNd newNd 1) hj
  refine ⟨fun i _ _ q x hq => ?_, (fun _ h => nomatch h), fun i _ hl he => ?_, (fun _ h => nomatch h)⟩
  · by_cases hi : i = 0
    · subst hi; rw [h0] at hq; simp at hq
    · rw [hj i hi] at hq; simp [newNd] at hq
  · by_cases hi : i = 0
    · subst hi
      exact absurd he (by rw [h0]; exact Int.lt_irrefl _)
    · rw [hj i hi] at hl; cases hl
section
variable {k : Nat} {c : Cu} {ps : List Pr16} {ws : List Wr16}
/-- what is held of a write by the newest primary -/
theorem KI.tells (h : KI c ps ws) (hi : CuI k c) {w : Wr16} (hw : w ∈ ws) (hno : ∀ p ∈ ps, w.e < p.e → w.p ≤ p.c) : c.first.lg[(w.p - 1).toNat]? = some w.x := by
  obtain ⟨h1, h2, h3⟩ := h.w w hw
  refine h3 c.pm.p.toNat hi.is.lt.1 hi.fl (by rw [show (c.ns c.pm.p.toNat).ep = c.pm.e from hi.fe]; exact h1) fun p hp he _ => ?_
  have := hno p hp he
  omega
/-- a node that lays nothing -/
theorem KI.put (h : KI c ps ws) {n : Int} {x : Nd} (hx : x.ld = true → (c.at n).ld = true ∧ x.ep = (c.at n).ep ∧ x.lg = (c.at n).lg) : KI (c.put n x) ps ws := by
  have key : ∀ j, ((c.put n x).ns j).ld = true → (c.ns j).ld = true ∧ ((c.put n x).ns j).ep = (c.ns j).ep ∧ ((c.put n x).ns j).lg = (c.ns j).lg := fun j hj => by
    by_cases e : j = n.toNat
    · subst e
      have hat : (c.put n x).ns n.toNat = x := upd3_at _ _ _
      rw [hat] at hj ⊢
      exact hx hj
    · have hot : (c.put n x).ns j = c.ns j := upd3_ne _ _ e
      rw [hot] at hj ⊢
      exact ⟨hj, rfl, rfl⟩
  have good : ∀ {y : Lg} {e : Int} {q : Nat}, Good c ps y e q → Good (c.put n x) ps y e q := fun hg j hj hl he hu => by
    obtain ⟨a, b, d⟩ := key j hl
    rw [b] at he hu
    rw [d]
    exact hg j hj a he hu
  refine ⟨fun i hi hl q y hq => ?_, fun w hw => ?_, fun i hi hl he => ?_, h.pe⟩
  · obtain ⟨a, b, d⟩ := key i hl
    rw [d] at hq
    rw [b]
    exact good (h.g i hi a q y hq)
  · obtain ⟨a, b, d⟩ := h.w w hw
    exact ⟨a, b, good d⟩
  · obtain ⟨a, b, d⟩ := key i hl
    rw [b] at he ⊢
    rw [d]
    exact h.k2 i hi a he
/-- one that leads lays entries -/
theorem KI.grow (h : KI c ps ws) (hi : CuI k c) {n : Int} {x : Nd} (hl : (c.at n).ld = true) (he : x.ep = (c.at n).ep) (es : List Lg) (hg : x.lg = (c.at n).lg ++ es) : KI (c.put n x) ps ws := by
  have hat : (c.put n x).ns n.toNat = x := upd3_at _ _ _
  have hot : ∀ j, j ≠ n.toNat → (c.put n x).ns j = c.ns j := fun j hj => upd3_ne _ _ hj
  have hl' : (c.ns n.toNat).ld = true := hl
  have he' : x.ep = (c.ns n.toNat).ep := he
  have hg' : x.lg = (c.ns n.toNat).lg ++ es := hg
  have good : ∀ {y : Lg} {e : Int} {q : Nat}, Good c ps y e q → Good (c.put n x) ps y e q := fun hgd j hj hld hep hu => by
    by_cases e : j = n.toNat
    · subst e
      rw [hat] at hep hu ⊢
      rw [he'] at hep hu
      have := hgd _ hj hl' hep hu
      rw [hg', List.getElem?_append_left (List.getElem?_eq_some_iff.1 this).1]
      exact this
    · rw [hot j e] at hld hep hu ⊢
      exact hgd j hj hld hep hu
  refine ⟨fun i hii hld q y hq => ?_, fun w hw => ?_, fun i hii hld hep => ?_, h.pe⟩
  · by_cases e : i = n.toNat
    · subst e
      rw [hat] at hq ⊢
      rw [he']
      by_cases hql : q < (c.ns n.toNat).lg.length
      · rw [hg', List.getElem?_append_left hql] at hq
        exact good (h.g _ hii hl' q y hq)
      · intro j hj hjl hje hu
        by_cases e : j = n.toNat
        · subst e
          rw [hat]
          exact hq
        · rw [hot j e] at hjl hje hu
          have hne := hi.one _ j hii hj (fun a => e a.symm) hl' hjl
          have hjm := hi.ep j hj
          obtain ⟨p, hp, h1, h2⟩ := h.k2 _ hii hl' (by omega)
          have := hu p hp (by omega) (by omega)
          omega
    · rw [hot i e] at hld hq ⊢
      exact good (h.g i hii hld q y hq)
  · obtain ⟨a, b, d⟩ := h.w w hw
    exact ⟨a, b, good d⟩
  · by_cases e : i = n.toNat
    · subst e
      rw [hat] at hep ⊢
      rw [he'] at hep ⊢
      obtain ⟨p, hp, h1, h2⟩ := h.k2 _ hii hl' hep
      refine ⟨p, hp, h1, ?_⟩
      rw [hg', List.length_append]
      omega
    · rw [hot i e] at hld hep ⊢
      exact h.k2 i hii hld hep
theorem KI.run (h : KI c ps ws) (hi : CuI k c) (n cn e : Int) (rd : Bool) (s : ByteArray) : KI (runCu c n cn e rd s).2 ps ws := by
  unfold runCu
  by_cases hn : c.Is n
  · rw [if_neg (Decidable.not_not.2 hn)]
    have hf := run_fenced (c.at n) cn e rd s
    obtain ⟨es, hes, _⟩ := hf.grew.lg
    cases hl : (c.at n).ld with
    | true => exact h.grow hi hl hf.grew.ep es hes
    | false => exact h.put fun hx => by rw [hf.grew.ld, hl] at hx; cases hx
  · rw [if_pos hn]
    exact h
theorem KI.close (h : KI c ps ws) (n cn : Int) : KI (clsCu c n cn).2 ps ws := by
  unfold clsCu
  by_cases hn : c.Is n
  · rw [if_neg (Decidable.not_not.2 hn)]
    exact h.put fun hx => ⟨hx, rfl, rfl⟩
  · rw [if_pos hn]
    exact h
theorem KI.copy (h : KI c ps ws) (n m : Int) : KI (cpyCu c n m).2 ps ws := by
  unfold cpyCu
  by_cases hn : ¬ c.Is n ∨ n = c.pm.p
  · rw [if_pos hn]
    exact h
  · rw [if_neg hn]
    refine h.put fun hx => ?_
    rcases copy_does (c.at n) c.first m with ⟨e, _⟩ | ⟨_, _, h3, _⟩
    · rw [e] at hx ⊢
      exact ⟨hx, rfl, rfl⟩
    · rw [h3] at hx; cases hx
theorem KI.promote (h : KI c ps ws) (hi : CuI k c) {n : Int} (hn : c.Is n) (hp : n ≠ c.pm.p) : KI (proCu c n).2 (ps ++ [nextPm c n]) ws := by
  have hpro : (proCu c n).2 = ⟨c.n, upd3 c.ns n.toNat ⟨c.pm.e + 1, true, (c.at n).lg, []⟩, nextPm c n⟩ := by
    unfold proCu
    rw [if_neg (Decidable.not_not.2 hn), if_neg hp, hi.lead_ hn]
  rw [hpro]
  obtain ⟨x, hx⟩ : ∃ x, (⟨c.pm.e + 1, true, (c.at n).lg, []⟩ : Nd) = x := ⟨_, rfl⟩
  have hxe : x.ep = c.pm.e + 1 := by rw [← hx]
  have hxl : x.lg = (c.ns n.toNat).lg := by rw [← hx]; rfl
  rw [hx]
  have hat : upd3 c.ns n.toNat x n.toNat = x := upd3_at _ _ _
  have hot : ∀ j, j ≠ n.toNat → upd3 c.ns n.toNat x j = c.ns j := fun j hj => upd3_ne c.ns x hj
  have hnp : c.pm.p.toNat ≠ n.toNat := fun e => hn.ne hi.is hp e.symm
  have hfe : (c.ns c.pm.p.toNat).ep = c.pm.e := hi.fe
  have hfl : (c.ns c.pm.p.toNat).ld = true := hi.fl
  have hsub : ∀ {e q E : Int}, Uncut (ps ++ [nextPm c n]) e q E → Uncut ps e q E := fun hu p hp => hu p (List.mem_append_left _ hp)
  have good : ∀ {y : Lg} {e : Int} {q : Nat}, Good c ps y e q → e ≤ c.pm.e → Good ⟨c.n, upd3 c.ns n.toNat x, nextPm c n⟩ (ps ++ [nextPm c n]) y e q := fun {y e q} hg hem j hj hjl hje hu => by
    dsimp only at hj hjl hje hu ⊢
    by_cases ej : j = n.toNat
    · subst ej
      rw [hat] at hje hu ⊢
      rw [hxe] at hu
      have h1 : ((q : Int) + 1) ≤ (sameLg (c.at n).lg c.first.lg : Nat) := hu (nextPm c n) (List.mem_append_right _ List.mem_cons_self) (show e < c.pm.e + 1 by omega) (Int.le_refl _)
      have h2 := hg c.pm.p.toNat hi.is.lt.1 hfl (by rw [hfe]; exact hem) (by rw [hfe]; exact fun p hp h3 h4 => hu p (List.mem_append_left _ hp) h3 (by omega))
      rw [hxl]
      have h3 : ((c.at n).lg.take (sameLg (c.at n).lg c.first.lg))[q]? = (c.first.lg.take (sameLg (c.at n).lg c.first.lg))[q]? := by rw [sameLg_take]
      rw [List.getElem?_take_of_lt (by omega), List.getElem?_take_of_lt (by omega)] at h3
      exact h3.trans h2
    · rw [hot j ej] at hjl hje hu ⊢
      exact hg j hj hjl hje (hsub hu)
  refine ⟨fun i hii hld q y hq => ?_, fun w hw => ?_, fun i hii hld hep => ?_, fun p hp => ?_⟩
  · dsimp only at hii hld hq ⊢
    by_cases e : i = n.toNat
    · subst e
      rw [hat] at hq ⊢
      rw [hxe]
      intro j hj hjl hje hu
      dsimp only at hj hjl hje hu ⊢
      by_cases ej : j = n.toNat
      · subst ej
        rw [hat]
        exact hq
      · rw [hot j ej] at hje
        have := hi.ep j hj
        omega
    · rw [hot i e] at hld hq ⊢
      exact good (h.g i hii hld q y hq) (hi.ep i hii)
  · obtain ⟨a, b, d⟩ := h.w w hw
    exact ⟨show w.e ≤ c.pm.e + 1 by omega, b, good d a⟩
  · dsimp only at hii hld hep ⊢
    by_cases e : i = n.toNat
    · subst e
      rw [hat, hxe] at hep
      exact absurd hep (Int.lt_irrefl _)
    · rw [hot i e] at hld hep ⊢
      have hep' : (c.ns i).ep < c.pm.e + 1 := hep
      by_cases ep_ : i = c.pm.p.toNat
      · subst ep_
        refine ⟨_, List.mem_append_right _ List.mem_cons_self, by show c.pm.e + 1 = _; rw [hfe], ?_⟩
        have := (sameLg_le (c.at n).lg c.first.lg).2
        show ((sameLg (c.at n).lg c.first.lg : Nat) : Int) ≤ ((c.first.lg.length : Nat) : Int)
        omega
      · have := hi.one i _ hii hi.is.lt.1 ep_ hld hfl
        rw [hfe] at this
        obtain ⟨p, hp, h1, h2⟩ := h.k2 i hii hld (by omega)
        exact ⟨p, List.mem_append_left _ hp, h1, h2⟩
  · rcases List.mem_append.1 hp with hp | hp
    · have := h.pe p hp
      show p.e ≤ c.pm.e + 1
      omega
    · rw [List.mem_singleton.1 hp]
      exact Int.le_refl _
/-- a write that was told -/
theorem KI.more (h : KI c ps ws) {w : Wr16} (hw : w.e ≤ c.pm.e ∧ 1 ≤ w.p ∧ Good c ps w.x w.e (w.p - 1).toNat) : KI c ps (ws ++ [w]) :=
  { h with w := fun x hx => (List.mem_append.1 hx).elim (h.w x) fun e => by rw [List.mem_singleton.1 e]; exact hw }
theorem run_led {n : Nd} {cn e : Int} {rd : Bool} {s : ByteArray} (h : (runNd n cn e rd s).1.e = 0) (h1 : clsT s ≠ 1) : n.ld = true ∧ rd = false ∧ e = n.ep := by
  have hw : whyNd n e rd (clsT s) = 0 := by
    by_cases hw : whyNd n e rd (clsT s) ≠ 0
    · exfalso
      unfold runNd at h
      rw [if_pos hw] at h
      exact hw h
    · exact Decidable.not_not.1 hw
  obtain ⟨a, _, b, d⟩ := why_none hw
  have hrd : rd = false := by
    cases rd with
    | false => rfl
    | true => exact absurd (b rfl) h1
  exact ⟨d hrd, hrd, a⟩
/-- a write that a Run told -/
theorem KI.wrote (h : KI c ps ws) (hi : CuI k c) {n cn e : Int} {rd : Bool} {s : ByteArray} (h0 : (runCu c n cn e rd s).1.e = 0) (h1 : clsT s ≠ 1) {x : Lg} (hx : (lgCu (runCu c n cn e rd s).2 n)[((runCu c n cn e rd s).1.pl - 1).toNat]? = some x) (hpl : 0 < (runCu c n cn e rd s).1.pl) :
    KI (runCu c n cn e rd s).2 ps (ws ++ [⟨x, (runCu c n cn e rd s).1.ep, (runCu c n cn e rd s).1.pl⟩]) := by
  have hk := h.run hi n cn e rd s
  by_cases hn : c.Is n
  · have hr : runCu c n cn e rd s = ((runNd (c.at n) cn e rd s).1, c.put n (runNd (c.at n) cn e rd s).2) := by
      unfold runCu
      rw [if_neg (Decidable.not_not.2 hn)]
    rw [hr] at h0 hx hpl hk ⊢
    dsimp only at h0 hx hpl hk ⊢
    have hf := run_fenced (c.at n) cn e rd s
    obtain ⟨hl, _, _⟩ := run_led h0 h1
    have hat : (c.put n (runNd (c.at n) cn e rd s).2).ns n.toNat = (runNd (c.at n) cn e rd s).2 := upd3_at _ _ _
    have hlg : lgCu (c.put n (runNd (c.at n) cn e rd s).2) n = (runNd (c.at n) cn e rd s).2.lg := by
      unfold lgCu
      rw [if_pos (show (c.put n _).Is n from hn)]
      exact congrArg Nd.lg hat
    rw [hlg] at hx
    refine hk.more ⟨?_, hpl, ?_⟩
    · show (runNd (c.at n) cn e rd s).1.ep ≤ c.pm.e
      rw [hf.ep]
      exact hi.ep _ hn.lt.1
    · have := hk.g n.toNat hn.lt.1 (by rw [hat, hf.grew.ld]; exact hl) _ x (by rw [hat]; exact hx)
      rw [hat, hf.grew.ep] at this
      dsimp only
      rw [hf.ep]
      exact this
  · exfalso
    unfold runCu at h0
    rw [if_pos hn] at h0
    have h2 : (6 : Int) = 0 := h0
    omega
end

/-- a read that was told: the epoch, the place, texts -/
structure Sv16 where
  e : Int
  p : Int
  ts : List ByteArray
instance : Inhabited Sv16 := ⟨⟨0, 0, []⟩⟩
/-- each epoch's log, as its leader had it -/
structure SI (s : ByteArray) (c : Cu) (L : Int → List Lg) (ss : List Sv16) : Prop where
  ld : ∀ i, i < c.n → (c.ns i).ld = true → (c.ns i).lg = L (c.ns i).ep
  pre : ∀ i, i < c.n → (c.ns i).lg = (L (c.ns i).ep).take (c.ns i).lg.length
  no : ∀ i, i < c.n → opOf 99 (c.ns i).op = none
  sv : ∀ x ∈ ss, x.e ≤ c.pm.e ∧ 0 ≤ x.p ∧ x.p ≤ (L x.e).length ∧ x.ts = rdT s (tabN ((L x.e).take x.p.toNat) [])
section
variable {s : ByteArray} {k : Nat} {c : Cu} {L : Int → List Lg} {ss : List Sv16}
def updL (L : Int → List Lg) (e : Int) (l : List Lg) : Int → List Lg := fun x => if x = e then l else L x
theorem updL_at (L : Int → List Lg) (e : Int) (l : List Lg) : updL L e l e = l := if_pos rfl
theorem updL_ne (L : Int → List Lg) {e x : Int} (l : List Lg) (h : x ≠ e) : updL L e l x = L x := if_neg h
theorem SI.new (n : Nat) : SI s (newCu n) (fun _ => []) [] := by
  have hj : ∀ j, j ≠ 0 → (newCu n).ns j = newNd := fun j hj => upd3_ne (fun _ => newNd) (leadNd newNd 1) hj
  have h0 : (newCu n).ns 0 = ⟨1, true, [], []⟩ := rfl
  refine ⟨fun i _ _ => ?_, fun i _ => ?_, fun i _ => ?_, (fun _ h => nomatch h)⟩
  all_goals
    by_cases hi : i = 0
    · subst hi; rw [h0] <;> rfl
    · rw [hj i hi] <;> rfl
theorem SI.take_le (h : SI s c L ss) {i : Nat} (hi : i < c.n) : (c.ns i).lg.length ≤ (L (c.ns i).ep).length := by
  have := congrArg List.length (h.pre i hi)
  rw [List.length_take] at this
  omega
/-- a node that lays nothing -/
theorem SI.put (h : SI s c L ss) {n : Int} {x : Nd} (h1 : x.ld = true → x.lg = L x.ep) (h2 : x.lg = (L x.ep).take x.lg.length) (h3 : opOf 99 x.op = none) : SI s (c.put n x) L ss := by
  have hat : (c.put n x).ns n.toNat = x := upd3_at _ _ _
  have hot : ∀ j, j ≠ n.toNat → (c.put n x).ns j = c.ns j := fun j hj => upd3_ne _ _ hj
  refine ⟨fun i hi => ?_, fun i hi => ?_, fun i hi => ?_, h.sv⟩
  · by_cases e : i = n.toNat
    · subst e; rw [hat]; exact h1
    · rw [hot i e]; exact h.ld i hi
  · by_cases e : i = n.toNat
    · subst e; rw [hat]; exact h2
    · rw [hot i e]; exact h.pre i hi
  · by_cases e : i = n.toNat
    · subst e; rw [hat]; exact h3
    · rw [hot i e]; exact h.no i hi
theorem SI.grow (h : SI s c L ss) (hi : CuI k c) {n : Int} (hn : c.Is n) {x : Nd} (hl : (c.at n).ld = true) (he : x.ep = (c.at n).ep) (es : List Lg) (hg : x.lg = (c.at n).lg ++ es) (ho : opOf 99 x.op = none) : SI s (c.put n x) (updL L (c.at n).ep x.lg) ss := by
  have hat : (c.put n x).ns n.toNat = x := upd3_at _ _ _
  have hot : ∀ j, j ≠ n.toNat → (c.put n x).ns j = c.ns j := fun j hj => upd3_ne _ _ hj
  have hL : (c.at n).lg = L (c.at n).ep := h.ld _ hn.lt.1 hl
  have grown : ∀ e, ∃ r, updL L (c.at n).ep x.lg e = L e ++ r := fun e => by
    by_cases hee : e = (c.at n).ep
    · subst hee
      exact ⟨es, by rw [updL_at, hg, hL]⟩
    · exact ⟨[], by rw [updL_ne _ _ hee, List.append_nil]⟩
  refine ⟨fun i hii hld => ?_, fun i hii => ?_, fun i hii => ?_, fun y hy => ?_⟩
  · by_cases e : i = n.toNat
    · subst e; rw [hat, he, updL_at]
    · rw [hot i e] at hld ⊢
      have := hi.one i _ hii hn.lt.1 e hld hl
      rw [updL_ne _ _ (show (c.ns i).ep ≠ (c.at n).ep from this)]
      exact h.ld i hii hld
  · by_cases e : i = n.toNat
    · subst e; rw [hat, he, updL_at, List.take_length]
    · rw [hot i e]
      obtain ⟨r, hr⟩ := grown (c.ns i).ep
      rw [hr, List.take_append_of_le_length (h.take_le hii)]
      exact h.pre i hii
  · by_cases e : i = n.toNat
    · subst e; rw [hat]; exact ho
    · rw [hot i e]; exact h.no i hii
  · obtain ⟨a, b, d, f⟩ := h.sv y hy
    obtain ⟨r, hr⟩ := grown y.e
    rw [hr, List.length_append]
    refine ⟨a, b, by omega, ?_⟩
    rw [List.take_append_of_le_length (by omega)]
    exact f
theorem do_no99 {n : Nd} {cn is : Int} {t : ByteArray} (h : opOf 99 n.op = none) (hc : cn ≠ 99) : opOf 99 (doNd n cn is t).2.op = none := by
  have hd : opOf 99 (dropOp cn n.op) = none := by
    rw [dropOp_of, if_neg (fun e => hc e.symm)]
    exact h
  unfold doNd
  split
  · split
    · exact h
    split
    · unfold layNd
      split <;> exact hd
    split
    · exact hd
    split
    · split
      · exact h
      · show opOf 99 (putOp _ _ _) = none
        rw [putOp_of, if_neg (fun e => hc e.symm)]
        exact h
    · exact h
  · split
    · exact h
    split
    · show opOf 99 (n.op ++ [⟨cn, []⟩]) = none
      rw [opOf_none] at h ⊢
      intro o ho
      rcases List.mem_append.1 ho with ho | ho
      · exact h o ho
      · rw [List.mem_singleton.1 ho]
        exact hc
    split
    · unfold layNd
      split <;> exact h
    · exact h
theorem run_no99 {n : Nd} {cn e : Int} {rd : Bool} {t : ByteArray} (h : opOf 99 n.op = none) (hc : cn ≠ 99) : opOf 99 (runNd n cn e rd t).2.op = none := by
  unfold runNd
  split
  · exact h
  split
  · exact do_no99 h hc
  · exact h
theorem SI.run (h : SI s c L ss) (hi : CuI k c) (n cn e : Int) (rd : Bool) (t : ByteArray) (hc : cn ≠ 99) : ∃ L', SI s (runCu c n cn e rd t).2 L' ss := by
  unfold runCu
  by_cases hn : c.Is n
  · rw [if_neg (Decidable.not_not.2 hn)]
    have hf := run_fenced (c.at n) cn e rd t
    have ho : opOf 99 (runNd (c.at n) cn e rd t).2.op = none := run_no99 (h.no _ hn.lt.1) hc
    obtain ⟨es, hes, _⟩ := hf.grew.lg
    cases hl : (c.at n).ld with
    | true => exact ⟨_, h.grow hi hn hl hf.grew.ep es hes ho⟩
    | false =>
      have hsame : (runNd (c.at n) cn e rd t).2.lg = (c.at n).lg := by
        by_cases hs : (runNd (c.at n) cn e rd t).2.lg = (c.at n).lg
        · exact hs
        · have := (hf.who hs).2.2.1
          rw [hl] at this
          cases this
      refine ⟨L, h.put (fun hx => by rw [hf.grew.ld, hl] at hx; cases hx) ?_ ho⟩
      rw [hsame, hf.grew.ep]
      exact h.pre _ hn.lt.1
  · rw [if_pos hn]
    exact ⟨L, h⟩
theorem SI.close (h : SI s c L ss) (n cn : Int) : SI s (clsCu c n cn).2 L ss := by
  unfold clsCu
  by_cases hn : c.Is n
  · rw [if_neg (Decidable.not_not.2 hn)]
    refine h.put (fun hx => h.ld _ hn.lt.1 hx) (h.pre _ hn.lt.1) ?_
    show opOf 99 (dropOp _ _) = none
    rw [dropOp_of]
    split
    · rfl
    · exact h.no _ hn.lt.1
  · rw [if_pos hn]
    exact h
theorem SI.copy (h : SI s c L ss) (hi : CuI k c) (n m : Int) : SI s (cpyCu c n m).2 L ss := by
  unfold cpyCu
  by_cases hn : ¬ c.Is n ∨ n = c.pm.p
  · rw [if_pos hn]
    exact h
  · rw [if_neg hn]
    have hin : c.Is n := Decidable.not_not.1 fun e => hn (.inl e)
    have hfirst : c.first.lg = L c.first.ep := h.ld _ hi.is.lt.1 hi.fl
    rcases copy_does (c.at n) c.first m with ⟨e, _⟩ | ⟨_, h2, h3, h4, _⟩
    · rw [e]
      exact h.put (fun hx => h.ld _ hin.lt.1 hx) (h.pre _ hin.lt.1) (h.no _ hin.lt.1)
    · refine h.put (fun hx => by rw [h3] at hx; cases hx) ?_ ?_
      · rw [h2, h4, ← hfirst]
        exact take_take_len _
      · unfold copyNd
        split
        · exact h.no _ hin.lt.1
        · unfold turnNd
          split
          · rfl
          · exact h.no _ hin.lt.1
theorem SI.promote (h : SI s c L ss) (hi : CuI k c) (n : Int) : ∃ L', SI s (proCu c n).2 L' ss := by
  unfold proCu
  by_cases hn : c.Is n
  · rw [if_neg (Decidable.not_not.2 hn)]
    by_cases hp : n = c.pm.p
    · rw [if_pos hp]
      exact ⟨L, h⟩
    · rw [if_neg hp, hi.lead_ hn]
      dsimp only
      obtain ⟨x, hx⟩ : ∃ x, (⟨c.pm.e + 1, true, (c.at n).lg, []⟩ : Nd) = x := ⟨_, rfl⟩
      have hxe : x.ep = c.pm.e + 1 := by rw [← hx]
      have hxl : x.lg = (c.at n).lg := by rw [← hx]
      have hxo : opOf 99 x.op = none := by rw [← hx]; rfl
      rw [hx]
      have hat : upd3 c.ns n.toNat x n.toNat = x := upd3_at _ _ _
      have hot : ∀ j, j ≠ n.toNat → upd3 c.ns n.toNat x j = c.ns j := fun j hj => upd3_ne c.ns x hj
      have hne : ∀ j, j < c.n → (c.ns j).ep ≠ c.pm.e + 1 := fun j hj e => by have := hi.ep j hj; omega
      refine ⟨updL L (c.pm.e + 1) (c.at n).lg, fun i hii hld => ?_, fun i hii => ?_, fun i hii => ?_, fun y hy => ?_⟩
      · dsimp only at hii hld ⊢
        by_cases e : i = n.toNat
        · subst e; rw [hat, hxe, updL_at, hxl]
        · rw [hot i e] at hld ⊢
          rw [updL_ne _ _ (hne i hii)]
          exact h.ld i hii hld
      · dsimp only at hii ⊢
        by_cases e : i = n.toNat
        · subst e; rw [hat, hxe, updL_at, hxl, List.take_length]
        · rw [hot i e, updL_ne _ _ (hne i hii)]
          exact h.pre i hii
      · dsimp only at hii ⊢
        by_cases e : i = n.toNat
        · subst e; rw [hat]; exact hxo
        · rw [hot i e]; exact h.no i hii
      · obtain ⟨a, b, d, f⟩ := h.sv y hy
        rw [updL_ne _ _ (show y.e ≠ c.pm.e + 1 by omega)]
        exact ⟨show y.e ≤ c.pm.e + 1 by omega, b, d, f⟩
  · rw [if_pos hn]
    exact ⟨L, h⟩
theorem SI.act (h : SI s c L ss) (hi : CuI k c) (x : Ac7) (hc : x.c ≠ 99) : ∃ L', SI s (actCu c x).2 L' ss := by
  unfold actCu
  split
  · exact h.run hi _ _ _ _ _ hc
  split
  · exact ⟨L, h.close _ _⟩
  split
  · exact h.promote hi _
  · exact ⟨L, h.copy hi _ _⟩
/-- what who reads is told: it changes nothing -/
theorem SI.asks (h : SI s c L ss) (hs : clsT s = 1) {i : Nat} (hii : i < c.n) :
    (runNd (c.ns i) 99 (c.ns i).ep true s).2 = c.ns i ∧ (runNd (c.ns i) 99 (c.ns i).ep true s).1 = ⟨0, (c.ns i).ep, (c.ns i).lg.length, rdT s (tabN ((L (c.ns i).ep).take (c.ns i).lg.length) [])⟩ := by
  obtain ⟨h1, h2⟩ := run_read (c.ns i) 99 s
  refine ⟨h1, ?_⟩
  have hw : whyNd (c.ns i) (c.ns i).ep true (clsT s) = 0 := by
    unfold whyNd
    rw [hs]
    simp
  have hwt : waitsNd (c.ns i) 99 = [] := by
    unfold waitsNd
    rw [h.no i hii]
    rfl
  unfold runNd
  rw [if_neg (fun e => e hw), if_neg (fun e => e hs), hwt, ← h.pre i hii]
theorem SI.saw (h : SI s c L ss) (hi : CuI k c) {i : Nat} (hii : i < c.n) : SI s c L (ss ++ [⟨(c.ns i).ep, (c.ns i).lg.length, rdT s (tabN ((L (c.ns i).ep).take (c.ns i).lg.length) [])⟩]) :=
  ⟨h.ld, h.pre, h.no, fun x hx => (List.mem_append.1 hx).elim (h.sv x) fun e => by
    rw [List.mem_singleton.1 e]
    refine ⟨hi.ep i hii, Int.natCast_nonneg _, ?_, rfl⟩
    have := h.take_le hii
    dsimp only
    omega⟩
theorem SI.alike (h : SI s c L ss) {i : Nat} {x : Sv16} (hx : x ∈ ss) (he : x.e = (c.ns i).ep) (hp : x.p = (c.ns i).lg.length) : x.ts = rdT s (tabN ((L (c.ns i).ep).take (c.ns i).lg.length) []) := by
  obtain ⟨_, _, _, d⟩ := h.sv x hx
  rw [d, he, hp]
  rfl
end

/-- what is copied in parts is what is copied at once -/
theorem copy_parts (n f : Nd) {a b : Int} (ha : 0 ≤ a) (hb : 0 ≤ b) : (copyNd (copyNd n f a).2 f b).2 = (copyNd n f (a + b)).2 ∧ (copyNd n f a).1 + (copyNd (copyNd n f a).2 f b).1 = (copyNd n f (a + b)).1 ∧ 0 ≤ (copyNd n f (a + b)).1 ∧ (copyNd n f (a + b)).1 ≤ a + b := by
  by_cases h : f.ep < n.ep ∨ (f.ep = n.ep ∧ n.ld = true)
  · have e : ∀ m, copyNd n f m = (0, n) := fun m => if_pos h
    rw [e a, e (a + b)]
    dsimp only
    rw [e b]
    exact ⟨rfl, rfl, Int.le_refl _, by omega⟩
  · have e : ∀ m, copyNd n f m = ((manyNd n f m : Int), { turnNd n f with lg := f.lg.take (sameLg n.lg f.lg + manyNd n f m) }) := fun m => if_neg h
    have ht : (turnNd n f).ep = f.ep ∧ (turnNd n f).ld = false := by
      unfold turnNd
      by_cases h2 : n.ep < f.ep
      · rw [if_pos h2]; exact ⟨rfl, rfl⟩
      · rw [if_neg h2]
        refine ⟨show n.ep = f.ep by omega, ?_⟩
        cases hl : n.ld with
        | false => rfl
        | true => exact absurd (.inr ⟨by omega, hl⟩) h
    rw [e a, e (a + b)]
    dsimp only
    obtain ⟨m, hm⟩ : ∃ m : Nd, { turnNd n f with lg := f.lg.take (sameLg n.lg f.lg + manyNd n f a) } = m := ⟨_, rfl⟩
    have hmn : ({ turnNd n f with lg := f.lg.take (sameLg n.lg f.lg + manyNd n f a) } : Nd) = m := hm
    rw [hmn]
    have hme : m.ep = f.ep := by rw [← hm]; exact ht.1
    have hml : m.ld = false := by rw [← hm]; exact ht.2
    have hmo : m.op = (turnNd n f).op := by rw [← hm]
    have hmg : m.lg = f.lg.take (sameLg n.lg f.lg + manyNd n f a) := by rw [← hm]
    have hs := sameLg_le n.lg f.lg
    have hcn : ¬ (f.ep < m.ep ∨ (f.ep = m.ep ∧ m.ld = true)) := by rw [hml, hme]; rintro (h1 | ⟨_, h1⟩) <;> first | omega | cases h1
    have htm : turnNd m f = m := by unfold turnNd; rw [if_neg (by omega)]
    have hsm : sameLg m.lg f.lg = sameLg n.lg f.lg + manyNd n f a := by
      have hlen : (f.lg.take (sameLg n.lg f.lg + manyNd n f a)).length = sameLg n.lg f.lg + manyNd n f a := by
        rw [List.length_take]
        unfold manyNd
        omega
      rw [hmg]
      refine sameLg_of (by omega) (by unfold manyNd; omega) (by rw [List.take_take, Nat.min_self]) fun h1 _ => by omega
    have em : copyNd m f b = ((manyNd m f b : Int), { m with lg := f.lg.take (sameLg m.lg f.lg + manyNd m f b) }) := by
      have : copyNd m f b = ((manyNd m f b : Int), { turnNd m f with lg := f.lg.take (sameLg m.lg f.lg + manyNd m f b) }) := if_neg hcn
      rw [this, htm]
    have hsum : manyNd n f a + manyNd m f b = manyNd n f (a + b) := by
      unfold manyNd at hsm ⊢
      rw [hsm]
      omega
    rw [em]
    dsimp only
    refine ⟨?_, by omega, Int.natCast_nonneg _, by unfold manyNd; omega⟩
    rw [hsm, Nat.add_assoc, hsum, hme, hml, hmo, ← ht.1, ← ht.2]
theorem cpy_n (c : Cu) (n m : Int) : (cpyCu c n m).2.n = c.n := by
  unfold cpyCu
  split <;> rfl
theorem act_n (c : Cu) (x : Ac7) : (actCu c x).2.n = c.n := by
  unfold actCu
  split
  · show (runCu _ _ _ _ _ _).2.n = _
    unfold runCu
    split <;> rfl
  split
  · show (clsCu _ _ _).2.n = _
    unfold clsCu
    split <;> rfl
  split
  · show (proCu _ _).2.n = _
    unfold proCu
    split
    · rfl
    split <;> rfl
  · exact cpy_n _ _ _
theorem copy_cu {k : Nat} {c : Cu} (hI : CuI k c) (n : Int) {a b : Int} (ha : 0 ≤ a) (hb : 0 ≤ b) : (cpyCu (cpyCu c n a).2 n b).2 = (cpyCu c n (a + b)).2 ∧ (cpyCu c n a).1 + (cpyCu (cpyCu c n a).2 n b).1 = (cpyCu c n (a + b)).1 ∧ 0 ≤ (cpyCu c n (a + b)).1 ∧ (cpyCu c n (a + b)).1 ≤ a + b := by
  by_cases h : ¬ c.Is n ∨ n = c.pm.p
  · have e : ∀ m, cpyCu c n m = (0, c) := fun m => if_pos h
    rw [e a, e (a + b)]
    dsimp only
    rw [e b]
    exact ⟨rfl, rfl, Int.le_refl _, by omega⟩
  · have e : ∀ m, cpyCu c n m = ((copyNd (c.at n) c.first m).1, c.put n (copyNd (c.at n) c.first m).2) := fun m => if_neg h
    have hin : c.Is n := Decidable.not_not.1 fun e => h (.inl e)
    rw [e a, e (a + b)]
    dsimp only
    obtain ⟨h1, h2, h3, h4⟩ := copy_parts (c.at n) c.first ha hb
    have hq : c.pm.p.toNat ≠ n.toNat := fun e => h (.inr (by have := hI.is.lt; have := hin.lt; omega))
    · have hf : (c.put n (copyNd (c.at n) c.first a).2).first = c.first := upd3_ne c.ns _ hq
      have hat : (c.put n (copyNd (c.at n) c.first a).2).at n = (copyNd (c.at n) c.first a).2 := upd3_at _ _ _
      have e2 : cpyCu (c.put n (copyNd (c.at n) c.first a).2) n b = ((copyNd (copyNd (c.at n) c.first a).2 c.first b).1, (c.put n (copyNd (c.at n) c.first a).2).put n (copyNd (copyNd (c.at n) c.first a).2 c.first b).2) := by
        have : cpyCu (c.put n (copyNd (c.at n) c.first a).2) n b = ((copyNd ((c.put n (copyNd (c.at n) c.first a).2).at n) (c.put n (copyNd (c.at n) c.first a).2).first b).1, (c.put n (copyNd (c.at n) c.first a).2).put n (copyNd ((c.put n (copyNd (c.at n) c.first a).2).at n) (c.put n (copyNd (c.at n) c.first a).2).first b).2) := if_neg h
        rw [this, hf, hat]
      rw [e2]
      dsimp only
      refine ⟨?_, h2, h3, h4⟩
      rw [h1]
      show (⟨c.n, upd3 (upd3 c.ns n.toNat _) n.toNat _, c.pm⟩ : Cu) = ⟨c.n, upd3 c.ns n.toNat _, c.pm⟩
      congr 1
      funext j
      unfold upd3
      split <;> rfl
theorem lg_le {k : Nat} {c : Cu} (h : CuI k c) (n : Int) : (lgCu c n).length ≤ 200 := by
  unfold lgCu
  split
  · exact (h.nd _).lg
  · exact Nat.zero_le _
end

/- Layer 16: what the laws' walks share: a row cut at its end, rows that a region told, what stands beside a call. -/
section
open Go.RowKit
set_option maxRecDepth 100000

theorem nentsize16 : (Tryz.prog.info? (Tryz.prog.elem 60)).map (·.size) = some 2 := by kernel_rfl
theorem cutE16 (A : Option Addr) {n c k : Nat} (hk : k ≤ n) (hc : n ≤ c) (u : World) : (Instr.slice 60 (.slice A n c) none (some (.int .i64 (k : Int))) none).run Tryz.prog u = .ok (.slice A k c) u := by
  obtain ⟨ti, hti, hsz⟩ := Option.map_eq_some_iff.1 nentsize16
  rw [run_slice_h u 60 A n c (by kernel_rfl) .i64 k (by omega) (by omega)]
  cases A with
  | none => simp [sizeOf, typeInfo, hti, hsz, sliced, Result.andThen]
  | some ad => simp [sizeOf, typeInfo, hti, hsz, sliced, Result.andThen, Addr.add]
theorem lgC_front (rs : List Lg) (k : Nat) : lgC (rs.take k) = (lgC rs).take (k * 2) := by
  induction rs generalizing k with
  | nil => simp [lgC]
  | cons r rs ih =>
    cases k with
    | zero => simp [lgC]
    | succ k =>
      have := ih k
      have e1 : (k + 1) * 2 = k * 2 + 2 := by omega
      rw [List.take_succ_cons]
      simp only [lgC, List.flatMap_cons] at this ⊢
      rw [this, e1]
      simp
theorem LR.front {w : World} {A : Option Addr} {n : Nat} {ts : List Lg} (h : LR w A n ts) {j : Nat} (hj : j ≤ n) : LR w A j (ts.take j) :=
  ⟨by rw [List.length_take, h.len]; omega, by rw [lgC_front]; exact h.rd.front _⟩
section
variable {w0 w : World} {X Y : Thing} {ps : List (Nat × (Nat → Nat))} {l : List (Nat × Obj)} {rs : List (Option Addr × Nat × List Lg)} {xs : List (Option Addr × Nat × List ByteArray)}
/-- a row's beginning is a row -/
theorem St15.sub (h : St15 w0 X Y ps l rs xs w) {A : Option Addr} {n j : Nat} {lg : List Lg} (hr : (A, n, lg) ∈ rs) (hj : j ≤ n) : St15 w0 X Y ps l ((A, j, lg.take j) :: rs) xs w := by
  obtain ⟨N, a, b, c, d, e⟩ := h
  exact ⟨N, a, b, c, fun r hr2 => (List.mem_cons.1 hr2).elim (fun e => by subst e; exact ⟨(d _ hr).1.front hj, (d _ hr).2⟩) (d r), e⟩
theorem St15.fst (h : St15 w0 X Y ps l rs xs w) : ∃ S T : Nat → Prop, X.p S w ∧ Y.p T w := by
  obtain ⟨N, ⟨⟨S, T, h1, h2, _⟩, _⟩, _⟩ := h
  exact ⟨S, T, h1, h2⟩
end
/-- a row of entries, till an operation is done -/
def rowE16 (d : Nat) (n : Nat) (lg : List Lg) : Stl (Kp2 d d) where
  p := fun L v u => ∃ A c, v = .slice A n c ∧ (L d = false → LR u A n lg)
  st := fun i L v u u' _ h hk => by
    obtain ⟨A, c, hv, h⟩ := h
    refine ⟨A, c, hv, fun h1 => ?_⟩
    obtain ⟨a1, b1⟩ := done_not h1
    exact (h a1).next (hk (fun e => b1 e.symm) (fun e => b1 e.symm))
end

/- Layer 16: a row that a law itself makes longer, beside a cluster, as the second thing; what is served. -/
section
open Go.RowKit
set_option maxRecDepth 100000

/-- a row of the call's own, as a thing -/
def RowT (T : TypeId) (size : Nat) (A : Option Addr) (n c : Nat) (vs : List Value) : Thing where
  p := fun S w => w.ownsRow 0 T size (.slice A n c) n vs ∧ ∀ k, S k ↔ (Value.slice A n c).ownBlock = some k
  keep := fun h hk _ => ⟨own_keep h.1 fun g hg => hk g ((h.2 g).2 hg), h.2⟩
  lt := fun h k hk => (h.1.lt k ((h.2 k).1 hk)).2
theorem RowT.none (T : TypeId) (size : Nat) (w : World) : (RowT T size none 0 0 []).p noneB w :=
  ⟨⟨by simp, .inl ⟨rfl, rfl⟩⟩, fun k => ⟨fun h => h.elim, fun h => by simp [Value.ownBlock] at h⟩⟩
theorem RowT.turn {T : TypeId} {size : Nat} {A A' : Option Addr} {n n' c c' : Nat} {vs vs' : List Value} {S : Nat → Prop} {w w' : World} (h : (RowT T size A n c vs).p S w) (ho : w'.ownsRow 0 T size (.slice A' n' c') n' vs') (hg : w.grownBy w' (Value.slice A n c).ownBlock)
    (hw : (Value.slice A' n' c').ownBlock = (Value.slice A n c).ownBlock ∨ ∃ g, (Value.slice A' n' c').ownBlock = some g ∧ w.heap.size ≤ g) : Turn (RowT T size A' n' c' vs') S w w' :=
  ⟨⟨fun k => (Value.slice A' n' c').ownBlock = some k, ⟨ho, fun _ => Iff.rfl⟩, fun k hk => by
    rcases hw with e | ⟨g, e, hgl⟩
    · exact .inl ((h.2 k).2 (e ▸ hk))
    · rw [e] at hk; injection hk with hk; subst hk; exact .inr hgl⟩,
   ⟨hg.os, hg.tape, hg.output, hg.size, fun k hk hn => hg.block k hk fun e => hn ((h.2 k).2 e.symm)⟩⟩
section
variable {w0 w w' : World} {X Y Y' : Thing} {ps : List (Nat × (Nat → Nat))} {l : List (Nat × Obj)} {rs : List (Option Addr × Nat × List Lg)} {xs : List (Option Addr × Nat × List ByteArray)}
/-- the second comes to be another -/
theorem St15.turnr (h : St15 w0 X Y ps l rs xs w) (ht : ∀ S, Y.p S w → Turn Y' S w w') : St15 w0 X Y' ps l rs xs w' := by
  obtain ⟨N, ⟨⟨S, T, h1, h2, h3, h4⟩, h5, h6⟩, b, c, d, e⟩ := h
  obtain ⟨⟨T', g1, g2⟩, g3⟩ := ht T h2
  have hd : Duo w0 X Y' N w' := by
    refine ⟨⟨S, T', Thing.off h1 g3 h3, g1, fun k hk hk2 => ?_, fun k hk => ?_⟩, h5.trans (g3.below (fun k hk => (h4 k (.inr hk)).1) h5.size), fun k hk => Nat.lt_of_lt_of_le (h6 k hk) g3.size⟩
    · rcases g2 k hk2 with e | e
      · exact h3 k hk e
      · have := X.lt h1 k hk; omega
    · rcases hk with hk | hk
      · exact h4 k (.inl hk)
      · rcases g2 k hk with e | e
        · exact h4 k (.inr e)
        · have := h5.size
          exact ⟨by omega, fun hN => by have := h6 k hN; omega⟩
  exact ⟨N, hd, St15.keep hd b c d e (fun k h => ⟨h, g3.block k (h6 k h) fun e => (h4 k (.inr e)).2 h⟩) g3.size⟩
/-- another second, that is made; the first second is no more asked for -/
theorem St15.newr (h : St15 w0 X Y ps l rs xs w) {T : Nat → Prop} (hy : Y'.p T w') (hT : ∀ k, T k → w.heap.size ≤ k) (hb : Below w.heap.size w w') : St15 w0 X Y' ps l rs xs w' :=
  h.turnr fun S _ => ⟨⟨T, hy, fun k hk => .inr (hT k hk)⟩, Off.of S hb⟩
theorem St15.snd (h : St15 w0 X Y ps l rs xs w) : ∃ T : Nat → Prop, Y.p T w := by
  obtain ⟨S, T, _, h2⟩ := h.fst
  exact ⟨T, h2⟩
variable {T : TypeId} {size : Nat} {A : Option Addr} {n c : Nat} {vs : List Value}
theorem St15.rowo (h : St15 w0 X (RowT T size A n c vs) ps l rs xs w) : w.ownsRow 0 T size (.slice A n c) n vs := by
  obtain ⟨S, h2⟩ := h.snd
  exact h2.1
/-- behind an append to the row -/
theorem St15.push {A' : Option Addr} {n' c' : Nat} {vs' : List Value} (h : St15 w0 X (RowT T size A n c vs) ps l rs xs w) (ho : w'.ownsRow 0 T size (.slice A' n' c') n' vs') (hg : w.grownBy w' (Value.slice A n c).ownBlock)
    (hw : (Value.slice A' n' c').ownBlock = (Value.slice A n c).ownBlock ∨ ∃ g, (Value.slice A' n' c').ownBlock = some g ∧ w.heap.size ≤ g) : St15 w0 X (RowT T size A' n' c' vs') ps l rs xs w' :=
  h.turnr fun _ hS => RowT.turn hS ho hg hw
end
/-- what was served: epoch, place, texts; the texts as they lie -/
structure SvL where
  e : Int
  p : Int
  A : Option Addr
  m : Nat
  d : Nat
  ts : List ByteArray
instance : Inhabited SvL := ⟨⟨0, 0, none, 0, 0, []⟩⟩
def SvL.v (x : SvL) : Sv16 := ⟨x.e, x.p, x.ts⟩
def SvL.x (x : SvL) : Option Addr × Nat × List ByteArray := (x.A, x.m, x.ts)
def SvL.cells (x : SvL) : List Value := [.int .u64 x.e, .int .u64 x.p, .slice x.A x.m x.d]
def svC (ts : List SvL) : List Value := ts.flatMap SvL.cells
theorem svC_length : ∀ ts : List SvL, (svC ts).length = ts.length * 3
  | [] => rfl
  | r :: rs => by
    have := svC_length rs
    simp only [svC, List.flatMap_cons, List.length_append, List.length_cons, SvL.cells, List.length_nil] at this ⊢
    omega
theorem svC_at : ∀ (rs : List SvL) (j : Nat) (h : j < rs.length) (i : Nat) (v : Value), rs[j].cells[i]? = some v → (svC rs)[j * 3 + i]? = some v
  | [], _, h, _, _, _ => by simp at h
  | r :: rs, 0, _, i, v, hv => by
    have hv' : r.cells[i]? = some v := hv
    have hi : i < r.cells.length := (List.getElem?_eq_some_iff.1 hv').1
    simp only [svC, List.flatMap_cons, Nat.zero_mul, Nat.zero_add]
    rw [List.getElem?_append_left hi]
    exact hv'
  | r :: rs, j + 1, h, i, v, hv => by
    have ih := svC_at rs j (by simpa using h) i v hv
    have hl : r.cells.length = 3 := rfl
    simp only [svC, List.flatMap_cons] at ih ⊢
    rw [List.getElem?_append_right (by rw [hl]; omega), hl]
    rw [show (j + 1) * 3 + i - 3 = j * 3 + i by omega]
    exact ih
theorem svC_more (ls : List SvL) (x : SvL) : svC (ls ++ [x]) = svC ls ++ x.cells := by simp [svC]
/-- an element of the row -/
theorem sv_at {w : World} {A : Option Addr} {n c : Nat} {ls : List SvL} {T : TypeId} (h : w.ownsRow 0 T 3 (.slice A n c) n (svC ls)) {j : Nat} (hj : j < ls.length) : ∃ ad, A = some ad ∧ ad.block < w.heap.size ∧ ∀ w', Below w.heap.size w w' →
    w'.cell? (ad.add (j * 3)) = some (.int .u64 ls[j].e) ∧ w'.cell? ⟨(ad.add (j * 3)).block, (ad.add (j * 3)).off + 1, none⟩ = some (.int .u64 ls[j].p) ∧ w'.cell? ⟨(ad.add (j * 3)).block, (ad.add (j * 3)).off + 2, none⟩ = some (.slice ls[j].A ls[j].m ls[j].d) := by
  have hl := h.1
  rw [svC_length] at hl
  rcases h.2 with ⟨h1, h2⟩ | ⟨g, cap, cur, h1, h2, h3, _⟩
  · omega
  · injection h1 with h1 _ _
    subst h1
    have hb : g < w.heap.size := (Array.getElem?_eq_some_iff.1 h3).1
    have key : ∀ (w' : World) (i : Nat) (v : Value), Below w.heap.size w w' → ls[j].cells[i]? = some v → w'.cell? ((⟨g, 0, none⟩ : Addr).add (j * 3 + i)) = some v := fun w' i v hw hv => by
      rw [hw.cell (by rw [add_block]; exact hb)]
      exact h.cells (g := g) rfl _ _ (svC_at ls j hj i v hv)
    have a1 : ∀ i, i ≠ 0 → (⟨((⟨g, 0, none⟩ : Addr).add (j * 3)).block, ((⟨g, 0, none⟩ : Addr).add (j * 3)).off + i, none⟩ : Addr) = (⟨g, 0, none⟩ : Addr).add (j * 3 + i) := fun i hi => by rw [← add_add]; unfold Addr.add; simp [hi]
    refine ⟨_, rfl, hb, fun w' hw => ⟨key w' 0 _ hw rfl, ?_, ?_⟩⟩
    · rw [a1 1 (by decide)]; exact key w' 1 _ hw rfl
    · rw [a1 2 (by decide)]; exact key w' 2 _ hw rfl
theorem svinfo16 : (Tryz.prog.info? 76).map (fun i => (i.zero, i.size, i.bytes)) = some (some (.agg #[.int .u64 0, .int .u64 0, .slice none 0 0]), 3, 40) := by kernel_rfl
/-- a slice of known length -/
def lenSl (n : Nat) : Stl KeepT := ⟨fun _ v _ => ∃ A d, v = .slice A n d, fun _ _ _ _ _ _ h _ => h⟩
/-- who only reads leaves its node as it was -/
theorem SI.stays {s : ByteArray} {c : Cu} {L : Int → List Lg} {ss : List Sv16} (h : SI s c L ss) (hs : clsT s = 1) {i : Nat} (hii : i < c.n) :
    runCu c i 99 (epCu c i) true s = (⟨0, (c.ns i).ep, (c.ns i).lg.length, rdT s (tabN ((L (c.ns i).ep).take (c.ns i).lg.length) [])⟩, c) := by
  have h1 : c.Is (i : Int) := ⟨by omega, by omega⟩
  obtain ⟨a, b⟩ := h.asks hs hii
  have e1 : epCu c (i : Int) = (c.ns i).ep := by
    unfold epCu
    rw [if_pos h1]
    rfl
  have e2 : c.at (i : Int) = c.ns i := rfl
  unfold runCu
  rw [if_neg (Decidable.not_not.2 h1), e1, e2, a, b]
  unfold Cu.put
  have e3 : upd3 c.ns (i : Int).toNat (c.ns i) = c.ns := by
    funext j
    by_cases e : j = i
    · subst e
      exact upd3_at _ _ _
    · exact upd3_ne _ _ e
  rw [e3]
end

/- Layer 16: two things as one; rows of any elements as things; what an act leaves of writes and promotions. -/
section
open Go.RowKit
set_option maxRecDepth 100000

/-- two things as one -/
def Two (A B : Thing) : Thing where
  p := fun S w => ∃ S1 S2, A.p S1 w ∧ B.p S2 w ∧ (∀ k, S1 k → ¬ S2 k) ∧ ∀ k, S k ↔ S1 k ∨ S2 k
  keep := fun ⟨S1, S2, h1, h2, h3, h4⟩ hk hz => ⟨S1, S2, A.keep h1 (fun k h => hk k ((h4 k).2 (.inl h))) hz, B.keep h2 (fun k h => hk k ((h4 k).2 (.inr h))) hz, h3, h4⟩
  lt := fun ⟨_, _, h1, h2, _, h4⟩ k hk => ((h4 k).1 hk).elim (A.lt h1 k) (B.lt h2 k)
section
variable {A A' B B' : Thing} {S : Nat → Prop} {w w' : World}
theorem Two.fst (h : (Two A B).p S w) (ht : ∀ S1, A.p S1 w → Turn A' S1 w w') : Turn (Two A' B) S w w' := by
  obtain ⟨S1, S2, h1, h2, h3, h4⟩ := h
  obtain ⟨⟨S1', g1, g2⟩, g3⟩ := ht S1 h1
  refine ⟨⟨fun k => S1' k ∨ S2 k, ⟨S1', S2, g1, Thing.off h2 g3 (fun k hk hk2 => h3 k hk2 hk), fun k hk hk2 => ?_, fun _ => Iff.rfl⟩, fun k hk => ?_⟩, g3.wide fun k hk => (h4 k).2 (.inl hk)⟩
  · rcases g2 k hk with e | e
    · exact h3 k e hk2
    · have := B.lt h2 k hk2; omega
  · rcases hk with hk | hk
    · exact (g2 k hk).imp (fun e => (h4 k).2 (.inl e)) id
    · exact .inl ((h4 k).2 (.inr hk))
theorem Two.flip (h : (Two A B).p S w) : (Two B A).p S w := by
  obtain ⟨S1, S2, h1, h2, h3, h4⟩ := h
  exact ⟨S2, S1, h2, h1, fun k a b => h3 k b a, fun k => (h4 k).trans Or.comm⟩
theorem Turn.flip (h : Turn (Two A B) S w w') : Turn (Two B A) S w w' := by
  obtain ⟨⟨S', g1, g2⟩, g3⟩ := h
  exact ⟨⟨S', Two.flip g1, g2⟩, g3⟩
theorem Two.snd (h : (Two A B).p S w) (ht : ∀ S2, B.p S2 w → Turn B' S2 w w') : Turn (Two A B') S w w' := (Two.fst (Two.flip h) ht).flip
theorem Two.make {T : Nat → Prop} (h : A.p S w) (hy : B.p T w') (hb : Below w.heap.size w w') (hT : ∀ k, T k → w.heap.size ≤ k) : (Two A B).p (fun k => S k ∨ T k) w' :=
  ⟨S, T, Thing.next h hb, hy, fun k h1 h2 => by have := A.lt h k h1; have := hT k h2; omega, fun _ => Iff.rfl⟩
end
section
variable {w0 w : World} {X Y Z : Thing} {ps : List (Nat × (Nat → Nat))} {l : List (Nat × Obj)} {rs : List (Option Addr × Nat × List Lg)} {xs : List (Option Addr × Nat × List ByteArray)}
/-- the second's second goes to the first -/
theorem St15.regr (h : St15 w0 X (Two Y Z) ps l rs xs w) : St15 w0 (Two X Z) Y ps l rs xs w := by
  obtain ⟨N, ⟨⟨S, T, h1, ⟨T1, T2, a1, a2, a3, a4⟩, h3, h4⟩, h5, h6⟩, r⟩ := h
  refine ⟨N, ⟨⟨fun k => S k ∨ T2 k, T1, ⟨S, T2, h1, a2, fun k e e2 => h3 k e ((a4 k).2 (.inr e2)), fun _ => Iff.rfl⟩, a1, fun k e e2 => ?_, fun k e => ?_⟩, h5, h6⟩, r⟩
  · rcases e with e | e
    · exact h3 k e ((a4 k).2 (.inl e2))
    · exact a3 k e2 e
  · rcases e with (e | e) | e
    · exact h4 k (.inl e)
    · exact h4 k (.inr ((a4 k).2 (.inr e)))
    · exact h4 k (.inr ((a4 k).2 (.inl e)))
/-- and comes back -/
theorem St15.regl (h : St15 w0 (Two X Z) Y ps l rs xs w) : St15 w0 X (Two Y Z) ps l rs xs w := by
  obtain ⟨N, ⟨⟨S, T, ⟨S1, S2, a1, a2, a3, a4⟩, h2, h3, h4⟩, h5, h6⟩, r⟩ := h
  refine ⟨N, ⟨⟨S1, fun k => T k ∨ S2 k, a1, ⟨T, S2, h2, a2, fun k e e2 => h3 k ((a4 k).2 (.inr e2)) e, fun _ => Iff.rfl⟩, fun k e e2 => ?_, fun k e => ?_⟩, h5, h6⟩, r⟩
  · rcases e2 with e2 | e2
    · exact h3 k ((a4 k).2 (.inl e)) e2
    · exact a3 k e e2
  · rcases e with e | e | e
    · exact h4 k (.inl ((a4 k).2 (.inl e)))
    · exact h4 k (.inr e)
    · exact h4 k (.inl ((a4 k).2 (.inr e)))
/-- a Classer beside another thing is asked -/
theorem St15.class2 {cb : Nat} (h : St15 w0 X (Two (CT cb) Z) ps l rs xs w) (hL : Lw w0) (s : ByteArray) (hs : s.size ≤ maxLen) :
    Calls Tryz.prog 26 #[.pointer (some ⟨cb, 0, none⟩), .string s] w fun e w' => e = .returned (.int .i64 (clsT s)) ∧ St15 w0 X (Two (CT cb) Z) ps l rs xs w' :=
  (h.regr.class hL s hs).mono fun _ _ ⟨he, h2⟩ => ⟨he, h2.regl⟩
end
theorem fm_at {α : Type} (f : α → List Value) (z : Nat) (hz : ∀ x, (f x).length = z) : ∀ (rs : List α) (j : Nat) (h : j < rs.length) (i : Nat) (v : Value), (f rs[j])[i]? = some v → (rs.flatMap f)[j * z + i]? = some v
  | [], _, h, _, _, _ => by simp at h
  | r :: rs, 0, _, i, v, hv => by
    have hv' : (f r)[i]? = some v := hv
    have hi : i < (f r).length := (List.getElem?_eq_some_iff.1 hv').1
    simp only [List.flatMap_cons, Nat.zero_mul, Nat.zero_add]
    rw [List.getElem?_append_left hi]
    exact hv'
  | r :: rs, j + 1, h, i, v, hv => by
    have ih := fm_at f z hz rs j (by simpa using h) i v hv
    simp only [List.flatMap_cons] at ih ⊢
    rw [List.getElem?_append_right (by rw [hz, Nat.succ_mul]; omega), hz]
    rw [show (j + 1) * z + i - z = j * z + i by rw [Nat.succ_mul]; omega]
    exact ih
/-- where an element of such a row of the call's own lies -/
theorem row_at {α : Type} {f : α → List Value} {z : Nat} (hz : ∀ x, (f x).length = z) {w : World} {A : Option Addr} {n c : Nat} {ls : List α} {T : TypeId} (h : w.ownsRow 0 T z (.slice A n c) n (ls.flatMap f)) (hn : ls.length = n) {j : Nat} (hj : j < ls.length) :
    ∃ ad, A = some ad ∧ ad.block < w.heap.size ∧ (∀ i v, (f ls[j])[i]? = some v → ∀ w', Below w.heap.size w w' → w'.cell? (ad.add (j * z + i)) = some v) ∧ ∀ i, i ≠ 0 → (⟨(ad.add (j * z)).block, (ad.add (j * z)).off + i, none⟩ : Addr) = ad.add (j * z + i) := by
  rcases h.2 with ⟨h1, h2⟩ | ⟨g, cap, cur, h1, h2, h3, _⟩
  · omega
  · injection h1 with h1 _ _
    subst h1
    have hb : g < w.heap.size := (Array.getElem?_eq_some_iff.1 h3).1
    refine ⟨_, rfl, hb, fun i v hv w' hw => ?_, fun i hi => by rw [← add_add]; unfold Addr.add; simp [hi]⟩
    rw [hw.cell (by rw [add_block]; exact hb)]
    exact h.cells (g := g) rfl _ _ (fm_at f z hz ls j hj i v hv)
/-- entries that are compared -/
theorem neq_went (T : TypeId) (hT : T = 69) (k k' : Int) (t t' : ByteArray) (w : World) : (binOp .neq T (.agg #[.int .u64 k, .string t]) (.agg #[.int .u64 k', .string t'])).run Tryz.prog w = .ok (.bool (!decide ((⟨k, t⟩ : Lg) = ⟨k', t'⟩))) w := by
  subst hT
  have hf : (Tryz.prog.fieldsOf 69) = (match Tryz.prog.underlying 69 with | some (.struct fs) => fs | _ => #[]) := rfl
  have hu := Tryz.underlying69
  rw [hu] at hf
  rw [run_neq_struct, run_equalIn_agg (P := Tryz.prog) w 9999 _ _ _ (by rw [hf]; exact hu) (by kernel_rfl), hf]
  have h9 := Tryz.underlying9
  have hz9 := Tryz.sizeOf9
  have ha9 := Tryz.isAgg9
  have h8 := Tryz.underlying32
  have hz8 := Tryz.sizeOf32
  have ha8 := Tryz.isAgg32
  have p1 : ∀ (x : Int) (u : ByteArray) (w : World), (part 32 #[.int .u64 x, .string u] 0).run Tryz.prog w = .ok (.int .u64 x) w := fun x u w => by simp [part, hz8, ha8]
  have p2 : ∀ (x : Int) (u : ByteArray) (w : World), (part 9 #[.int .u64 x, .string u] 1).run Tryz.prog w = .ok (.string u) w := fun x u w => by simp [part, hz9, ha9]
  have e1 : ∀ (x y : Int) (w : World), (Op.equalIn 9999 32 (.int .u64 x) (.int .u64 y)).run Tryz.prog w = .ok (x == y) w := fun x y w => run_equalIn_int w 9998 32 .u64 .u64 x y h8
  have e2 : ∀ (x y : ByteArray) (w : World), (Op.equalIn 9999 9 (.string x) (.string y)).run Tryz.prog w = .ok (x.toList == y.toList) w := fun x y w => run_equalIn_string w 9998 9 x y h9
  have ht : t.toList = t'.toList ↔ t = t' := ⟨bytes_ext, fun h => by rw [h]⟩
  by_cases h1 : k = k'
  · by_cases h2 : t = t'
    · simp [Op.eqFields, p1, p2, e1, e2, h1, h2]
    · simp [Op.eqFields, p1, p2, e1, e2, ht, h1, h2]
  · simp [Op.eqFields, p1, p2, e1, e2, h1]
def prC1 (p : Pr16) : List Value := [.int .u64 p.e, .int .i64 p.p, .int .u64 p.c]
def wrC1 (x : Wr16) : List Value := [.int .u64 x.x.e, .string x.x.t, .int .u64 x.e, .int .u64 x.p]
theorem fldp16 (e p q : Int) (w : World) : (Instr.field 45 (.agg #[.int .u64 e, .int .i64 p, .int .u64 q]) 1).run Tryz.prog w = .ok (.int .i64 p) w := by kernel_rfl
theorem pminfo16 : (Tryz.prog.info? 45).map (fun i => (i.zero, i.size, i.bytes)) = some (some (.agg #[.int .u64 0, .int .i64 0, .int .u64 0]), 3, 24) := by kernel_rfl
theorem wrinfo16 : (Tryz.prog.info? 71).map (fun i => (i.zero, i.size, i.bytes)) = some (some (.agg #[.int .u64 0, .string .empty, .int .u64 0, .int .u64 0]), 4, 40) := by kernel_rfl
/-- whether a promotion cut what was written -/
def cutF (ps : List Pr16) (x : Wr16) : Bool := ps.any fun p => decide (x.e < p.e) && decide (p.c < x.p)
theorem cutF_take (ps : List Pr16) (x : Wr16) {j : Nat} (hj : j < ps.length) : cutF (ps.take (j + 1)) x = (cutF (ps.take j) x || (decide (x.e < ps[j].e) && decide (ps[j].c < x.p))) := by
  unfold cutF
  rw [List.take_succ_eq_append_getElem hj, List.any_append]
  simp
theorem cutF_no {ps : List Pr16} {x : Wr16} (h : cutF ps x = false) : ∀ p ∈ ps, x.e < p.e → x.p ≤ p.c := fun p hp he => by
  unfold cutF at h
  have := List.any_eq_false.1 h p hp
  simp only [Bool.and_eq_true, decide_eq_true_eq, not_and] at this
  have := this he
  omega
section
variable {k : Nat} {c : Cu} {ps : List Pr16} {ws : List Wr16}
/-- an act that promotes, and one that doesn't -/
theorem KI.act2 (h : KI c ps ws) (hi : CuI k c) {x : Ac7} (h2 : x.d = 2) (he : (actCu c x).1.e = 0) : KI (actCu c x).2 (ps ++ [(actCu c x).2.pm]) ws := by
  have hx : actCu c x = (⟨noRp, false, (proCu c x.nd).1.1, (proCu c x.nd).1.2, 0⟩, (proCu c x.nd).2) := by
    unfold actCu
    rw [if_neg (by omega), if_neg (by omega), if_pos h2]
  rw [hx] at he ⊢
  dsimp only at he ⊢
  have hn : c.Is x.nd := by
    refine Decidable.byContradiction fun hn => ?_
    unfold proCu at he
    rw [if_pos hn] at he
    have : (6 : Int) = 0 := he
    omega
  have hp : x.nd ≠ c.pm.p := fun hp => by
    unfold proCu at he
    rw [if_neg (Decidable.not_not.2 hn), if_pos hp] at he
    have : (7 : Int) = 0 := he
    omega
  have h3 := h.promote hi hn hp
  have h4 : (proCu c x.nd).2.pm = nextPm c x.nd := by
    unfold proCu
    rw [if_neg (Decidable.not_not.2 hn), if_neg hp]
  rw [h4]
  exact h3
theorem KI.act0 (h : KI c ps ws) (hi : CuI k c) {x : Ac7} (h2 : ¬ (x.d = 2 ∧ (actCu c x).1.e = 0)) : KI (actCu c x).2 ps ws := by
  unfold actCu at h2 ⊢
  split
  · exact h.run hi _ _ _ _ _
  split
  · exact h.close _ _
  split
  · rename_i h0 h1 hd
    rw [if_neg h0, if_neg h1, if_pos hd] at h2
    dsimp only at h2 ⊢
    unfold proCu at h2 ⊢
    split
    · exact h
    split
    · exact h
    · rename_i a b
      rw [if_neg a, if_neg b] at h2
      exact absurd ⟨hd, rfl⟩ h2
  · exact h.copy _ _
/-- a write that an act told -/
theorem KI.actw (h : KI c ps ws) (hi : CuI k c) {x : Ac7} (h0 : x.d = 0) (he : (actCu c x).1.r.e = 0) (hc : clsT x.t ≠ 1) {y : Lg} (hpl : 0 < (actCu c x).1.r.pl) (hy : (lgCu (actCu c x).2 x.nd)[((actCu c x).1.r.pl - 1).toNat]? = some y) :
    KI (actCu c x).2 ps (ws ++ [⟨y, (actCu c x).1.r.ep, (actCu c x).1.r.pl⟩]) := by
  unfold actCu at he hpl hy ⊢
  rw [if_pos h0] at he hpl hy ⊢
  exact h.wrote hi he hc hy hpl
end
end

/- The landed cluster: begin, alike, Copy: contracts. -/
section
open Go.RowKit
set_option maxRecDepth 100000

def prP (p : Pr16) : Value := .agg #[.int .u64 p.e, .int .i64 p.p, .int .u64 p.c]
section
variable {b : Nat} {c : Cu} {g cap : Nat} {bs : Nat → Nat} {T S : Nat → Prop} {w w' : World} {k : Nat} {R : Value → World → Prop}
/-- another promotion, over the same nodes -/
theorem PUx.retop (h : PUx b c g cap bs T S w) (p : Pr16) (ht : w'.heap[b]? = some (.cells #[.slice (some ⟨g, 0, none⟩) c.n cap, .int .u64 p.e, .int .i64 p.p, .int .u64 p.c] 86 (0, 0))) (ho : Off (fun k => k = b) w w') : PUx b ⟨c.n, c.ns, p⟩ g cap bs T S w' :=
  { h with
    top := ht
    pt := fun i hi => (World.cell?_of_block (a := ⟨g, i, none⟩) (ho.block g (h.lt g h.sg) h.gb)).trans (h.pt i hi)
    nd := Thing.off h.nd ho fun _ e e2 => h.tb (e2 ▸ e)
    lt := fun k e => Nat.lt_of_lt_of_le (h.lt k e) ho.size }
set_option maxHeartbeats 4000000 in
theorem pbegin16_ok (p : Pr16) (h : PUx b c g cap bs T S w) (hp : c.Is p.p) :
    Calls Tryz.prog 33 #[.pointer (some ⟨b, 0, none⟩), prP p] w fun e w' => e = .returned (.tuple #[]) ∧ Turn (PU b ⟨c.n, upd3 c.ns p.p.toNat (leadNd (c.at p.p) p.e), p⟩) S w w' := by
  obtain ⟨w1, hw1⟩ : ∃ u, w.alloc (.cells #[.int .u64 p.e, .int .i64 p.p, .int .u64 p.c] 45) = u := ⟨_, rfl⟩
  have k1 : Below w.heap.size w w1 := hw1 ▸ kp_new w _
  have b1 : w1.heap[w.heap.size]? = some (.cells #[.int .u64 p.e, .int .i64 p.p, .int .u64 p.c] 45 (0, 0)) := hw1 ▸ alloc_at rfl _ _
  have hx1 := h.later w1 k1
  have hbl := h.lt b h.sb
  obtain ⟨w2, hw2⟩ : ∃ u, ((w1.setCell ⟨b, 1, none⟩ (.int .u64 p.e)).setCell ⟨b, 2, none⟩ (.int .i64 p.p)).setCell ⟨b, 3, none⟩ (.int .u64 p.c) = u := ⟨_, rfl⟩
  have ht2 : w2.heap[b]? = some (.cells #[.slice (some ⟨g, 0, none⟩) c.n cap, .int .u64 p.e, .int .i64 p.p, .int .u64 p.c] 86 (0, 0)) := by
    rw [← hw2]
    exact heap_setCell_same _ b 3 _ _ (.int .u64 p.c) (heap_setCell_same _ b 2 _ _ (.int .i64 p.p) (heap_setCell_same w1 b 1 _ _ (.int .u64 p.e) hx1.top))
  have ho2 : Off (fun k => k = b) w1 w2 := by
    rw [← hw2]
    exact (((Off.refl (fun k => k = b) w1).setCell (p := ⟨b, 1, none⟩) (.inl rfl) _).setCell (p := ⟨b, 2, none⟩) (.inl rfl) _).setCell (p := ⟨b, 3, none⟩) (.inl rfl) _
  have hx2 := hx1.retop p ht2 ho2
  have b2 : w2.heap[w.heap.size]? = some (.cells #[.int .u64 p.e, .int .i64 p.p, .int .u64 p.c] 45 (0, 0)) := (ho2.block _ (Array.getElem?_eq_some_iff.1 b1).1 (by omega)).trans b1
  have HOW : Hid (Off S w w2) := Lib.hid ((Off.of S k1).trans ho2 fun i hi => .inl (hi ▸ h.sb))
  obtain ⟨d0, _⟩ := hx2.tops
  have hp2 := hx2.ptr (n := p.p) hp
  obtain ⟨_, f1⟩ := cellsAt hx1.top 1 (v := .int .u64 c.pm.e) rfl
  obtain ⟨_, f2⟩ := cellsAt hx1.top 2 (v := .int .i64 c.pm.p) rfl
  obtain ⟨_, f3⟩ := cellsAt hx1.top 3 (v := .int .u64 c.pm.c) rfl
  obtain ⟨_, e1, e2, e3⟩ := hx1.tops
  obtain ⟨v1, _⟩ := cellsAt b1 0 (v := .int .u64 p.e) rfl
  obtain ⟨v2, _⟩ := cellsAt b1 1 (v := .int .i64 p.p) rfl
  obtain ⟨v3, _⟩ := cellsAt b1 2 (v := .int .u64 p.c) rfl
  obtain ⟨z1, _⟩ := cellsAt b2 0 (v := .int .u64 p.e) rfl
  obtain ⟨z2, _⟩ := cellsAt b2 1 (v := .int .i64 p.p) rfl
  have HL : Hid (∀ u, Below w2.heap.size w2 u → Calls Tryz.prog 61 #[.pointer (some ⟨bs p.p.toNat, 0, none⟩), .int .u64 p.e] u fun e w' => (∃ v, e = .returned v) ∧ Turn (PU b ⟨c.n, upd3 c.ns p.p.toNat (leadNd (c.at p.p) p.e), p⟩) S w w') := Lib.hid fun u hu => by
    have hxu := hx2.later u hu
    refine (Many.op (x := leadNd (c.at p.p) p.e) (Q := fun e _ => ∃ v, e = .returned v) hxu.nd hp.lt.1 fun S' hS' => (plead15_ok p.e hS').mono fun _ _ ⟨he, ht⟩ => ⟨⟨_, he⟩, ht⟩).mono ?_
    rintro e w' ⟨he, ht⟩
    exact ⟨he, Turn.over (S' := S) (fun _ h => .inl h) (HOW.out.trans (Off.of S hu) fun _ h => .inl h) (hxu.turn ht)⟩
  have hi0 : 0 ≤ p.p := hp.1
  have hi1 : p.p < (c.n : Int) := hp.2
  have r0 : w2.drew.cell? ⟨b, 0, none⟩ = some (.slice (some ⟨g, 0, none⟩) c.n cap) := d0
  have r1 : w2.drew.cell? ⟨g, p.p.toNat, none⟩ = some (.pointer (some ⟨bs p.p.toNat, 0, none⟩)) := hp2
  have r2 : w2.drew.cell? ⟨w.heap.size, 0, none⟩ = some (.int .u64 p.e) := z1
  have r3 : w2.drew.cell? ⟨w.heap.size, 1, none⟩ = some (.int .i64 p.p) := z2
  have HW1 := Lib.hid hw1
  have HW2 := Lib.hid hw2
  unfold prP
  clear h hx1 hx2 hw1 hw2 k1 b1 b2 ht2 ho2
  go_enter Tryz.func33, Tryz.ntmps33
  go_upto_region 1 with fail
  rw [HW1.out]
  go_wp2_with fail
  rw [HW2.out]
  clear e1 e2 e3 f1 f2 f3 v1 v2 v3
  go_region_law (go_simp; go_at_call 61; refine (HL.out _ (kp_drewN w2 1)).mono ?_; rintro e w3 ⟨⟨v, rfl⟩, hr⟩; have HR := Lib.hid hr; clear hr)
  all_goals
    go_wp2_with fail
    go_end0
    exact ⟨rfl, HR.out⟩
set_option maxHeartbeats 4000000 in
theorem palike16_ok (A A' : Option Addr) (n n' c c' : Nat) (xs ys : List Lg) (w : World) (hx : LR w A n xs) (hy : LR w A' n' ys) (hn : n ≤ 1000000) :
    Calls Tryz.prog 58 #[.slice A n c, .slice A' n' c'] w fun e w' => e = .returned (.int .u64 (sameLg xs ys)) ∧ ∃ m, w' = w.drewN m := by
  have hlx := Lib.hid hx.len
  have hly := Lib.hid hy.len
  obtain ⟨z, hmn, hz⟩ : ∃ z : Nat, (∀ (u : World) (ts : Array TypeId) (ty : TypeId), (Builtin.min_ ts ty #[.int .i64 (n : Int), .int .i64 (n' : Int)]).run Tryz.prog u = .ok (.int .i64 (z : Int)) u) ∧ z = min n n' := ⟨_, fun u ts ty => by
    rw [run_min_int2 (P := Tryz.prog) (w := u) ts ty .i64 .i64 (n : Int) n']
    congr 2
    split <;> omega, rfl⟩
  have HZ := Lib.hid hz
  have hzn : z ≤ 1000000 := by omega
  have hwz : IntKind.u64.wrap (z : Int) = (z : Int) := by rw [IntKind.wrap_u64]; omega
  clear hz
  go_enter Tryz.func58, Tryz.ntmps58
  go_wp2_with fail
  go_loopw [6, 13] (fun o i wr => ∃ k m : Nat, k ≤ z ∧ i = .int .i64 k ∧ Hid (xs.take k = ys.take k) ∧ wr = w.drewN m) (fun _ i _ => z - (intOf i).toNat)
  case atStart => exact ⟨0, 0, Nat.zero_le _, rfl, Lib.hid (by simp), rfl⟩
  case round =>
    obtain ⟨k, m, hk, rfl, he, hw⟩ := hrel
    have hx' : LR wr A n xs := by subst hw; exact hx.next (kp_drewN _ _)
    have hy' : LR wr A' n' ys := by subst hw; exact hy.next (kp_drewN _ _)
    have HW := Lib.hid hw
    clear hw hx hy
    by_cases hlt : k < z
    · have hkn : k < n := by have := HZ.out; omega
      have hkn' : k < n' := by have := HZ.out; omega
      have hkx : k < xs.length := by rw [hlx.out]; omega
      have hky : k < ys.length := by rw [hly.out]; omega
      have hwk : IntKind.u64.wrap (k : Int) = (k : Int) := by rw [IntKind.wrap_u64]; omega
      obtain ⟨ad, rfl, _, hc⟩ := hx'.at_ hkx
      obtain ⟨ad', rfl, _, hc'⟩ := hy'.at_ hky
      obtain ⟨c0, c1⟩ := hc _ (Below.refl _ _)
      obtain ⟨d0, d1⟩ := hc' _ (Below.refl _ _)
      clear hc hc' hx' hy'
      have hE := fun u => neq_went 69 rfl xs[k].e ys[k].e xs[k].t ys[k].t u
      have hi0 : (0 : Int) ≤ (k : Int) := by omega
      have hi1 : (k : Int) < (n : Int) := by omega
      have hi2 : (k : Int) < (n' : Int) := by omega
      have hi3 : (k : Int) < (z : Int) := by omega
      by_cases hee : xs[k] = ys[k]
      · have hsn : Hid (xs.take (k + 1) = ys.take (k + 1)) := Lib.hid (take_same6 hkx hky he.out hee)
        have hd : decide ((⟨xs[k].e, xs[k].t⟩ : Lg) = ⟨ys[k].e, ys[k].t⟩) = true := decide_eq_true (by exact hee)
        rw [hd] at hE
        clear hee hd
        generalize xs[k].e = x at *
        generalize ys[k].e = y at *
        generalize xs[k].t = s at *
        generalize ys[k].t = t at *
        go_wp2_with fail
        go_quiet (fail)
        go_wp2_with fail
        go_roundw
        case rel => exact ⟨k + 1, m + nq, by omega, by go_num, hsn, by rw [HW.out, World.drewN_drewN]⟩
        case measure => simp [intOf]; omega
      · have hS : Hid (sameLg xs ys = k) := Lib.hid (sameLg_of (Nat.le_of_lt hkx) (Nat.le_of_lt hky) he.out fun _ _ => hee)
        have hd : decide ((⟨xs[k].e, xs[k].t⟩ : Lg) = ⟨ys[k].e, ys[k].t⟩) = false := decide_eq_false (by exact hee)
        rw [hd] at hE
        clear hee hd
        generalize xs[k].e = x at *
        generalize ys[k].e = y at *
        generalize xs[k].t = s at *
        generalize ys[k].t = t at *
        go_wp2_with fail
        go_quiet (fail)
        go_wp2_with fail
        go_ret
        exact ⟨by rw [hS.out]; rfl, m + nq, by rw [HW.out, World.drewN_drewN]⟩
    · obtain rfl : k = z := by omega
      have hS : Hid (sameLg xs ys = k) := Lib.hid (sameLg_of (by rw [hlx.out]; have := HZ.out; omega) (by rw [hly.out]; have := HZ.out; omega) he.out fun ha hb => by
        rw [hlx.out] at ha
        rw [hly.out] at hb
        have := HZ.out
        omega)
      have hi3 : ¬ (k : Int) < (k : Int) := by omega
      go_wp2_with fail
      go_ret
      exact ⟨by rw [hS.out]; rfl, m, HW.out⟩
set_option maxHeartbeats 4000000 in
theorem pcopy1_ok (a x y : Nat) (m : Int) (h : PUx b c g cap bs T S w) (hp : c.Is c.pm.p) (y1 : w.cell? ⟨x, 0, none⟩ = some (.pointer (some ⟨b, 0, none⟩))) (y2 : w.cell? ⟨y, 0, none⟩ = some (.int .i64 m))
    (HQ : ∀ u, Below w.heap.size w u → Calls Tryz.prog 56 #[.pointer (some ⟨a, 0, none⟩), .pointer (some ⟨bs c.pm.p.toNat, 0, none⟩), .int .i64 m] u fun e w' => ∃ v, e = .returned v ∧ R v w') :
    Calls Tryz.prog 55 #[.pointer (some ⟨a, 0, none⟩), .pointer (some ⟨x, 0, none⟩), .pointer (some ⟨y, 0, none⟩)] w fun e w' => ∃ v, e = .returned v ∧ R v w' := by
  obtain ⟨c0, _, c2, _⟩ := h.tops
  have hpp := h.ptr hp
  have hi0 : 0 ≤ c.pm.p := hp.1
  have hi1 : c.pm.p < (c.n : Int) := hp.2
  have HH := Lib.hid HQ
  have d0 : w.drew.cell? ⟨b, 0, none⟩ = some (.slice (some ⟨g, 0, none⟩) c.n cap) := c0
  have d2 : w.drew.cell? ⟨b, 2, none⟩ = some (.int .i64 c.pm.p) := c2
  have d3 : w.drew.cell? ⟨g, c.pm.p.toNat, none⟩ = some (.pointer (some ⟨bs c.pm.p.toNat, 0, none⟩)) := hpp
  have z1 : w.drew.cell? ⟨x, 0, none⟩ = some (.pointer (some ⟨b, 0, none⟩)) := y1
  have z2 : w.drew.cell? ⟨y, 0, none⟩ = some (.int .i64 m) := y2
  clear h HQ hp
  generalize c.pm.p = p at *
  go_enter Tryz.func55, Tryz.ntmps55
  go_wp2_with fail
  go_region_law (go_simp; go_at_call 56; refine (HH.out _ (kp_drewN w 1)).mono ?_; rintro e w3 ⟨v, rfl, hr⟩; have HR := Lib.hid hr; clear hr)
  all_goals
    go_wp2_with fail
    go_ret
    exact ⟨v, rfl, HR.out⟩
set_option maxHeartbeats 4000000 in
theorem pcopy16_ok (n m : Int) (h : (PU b c).p S w) (hI : CuI k c) :
    Calls Tryz.prog 29 #[.pointer (some ⟨b, 0, none⟩), .int .i64 n, .int .i64 m] w fun e w' => e = .returned (.int .i64 (cpyCu c n m).1) ∧ Turn (PU b (cpyCu c n m).2) S w w' := by
  have HT := Lib.hid h
  obtain ⟨g, cap, bs, T, hx⟩ := h
  obtain ⟨w1, hw1⟩ : ∃ u, (w.alloc (.cells #[.pointer (some ⟨b, 0, none⟩)] 25)).alloc (.cells #[.int .i64 m] 3) = u := ⟨_, rfl⟩
  have k1 : Below w.heap.size w w1 := hw1 ▸ kp_alloc (kp_new w _) _
  have b0 : w1.heap[w.heap.size]? = some (.cells #[.pointer (some ⟨b, 0, none⟩)] 25 (0, 0)) := hw1 ▸ alloc_keep (alloc_at rfl _ _)
  have b1 : w1.heap[w.heap.size + 1]? = some (.cells #[.int .i64 m] 3 (0, 0)) := hw1 ▸ alloc_at (by simp) _ _
  have y1 := (cellsAt b0 0 (v := .pointer (some ⟨b, 0, none⟩)) rfl).1
  have y2 := (cellsAt b1 0 (v := .int .i64 m) rfl).1
  have hx1 := hx.later w1 k1
  obtain ⟨_, _, c2, _⟩ := hx1.tops
  rw [← hw1] at c2
  have HW1 := Lib.hid hw1
  have HK1 := Lib.hid k1
  by_cases hpn : n = c.pm.p
  · rw [show cpyCu c n m = (0, c) from by unfold cpyCu; rw [if_pos (.inr hpn)]]
    rw [← hpn] at c2
    clear hw1 k1 b0 b1 hx hx1 hpn
    go_enter Tryz.func29, Tryz.ntmps29
    go_wp2_with fail
    rw [HW1.out]
    go_ret
    exact ⟨rfl, Turn.same HT.out HK1.out⟩
  have hbn : (n == c.pm.p) = false := by simpa using hpn
  by_cases hn : c.Is n
  · rw [show cpyCu c n m = ((copyNd (c.at n) c.first m).1, c.put n (copyNd (c.at n) c.first m).2) from by unfold cpyCu; rw [if_neg (fun h => h.elim (fun e => e hn) hpn)]]
    have HQ := Lib.hid (askCp_ok (R := fun v w' => v = .int .i64 (copyNd (c.at n) c.first m).1 ∧ Turn (PU b (c.put n (copyNd (c.at n) c.first m).2)) S w w') n w.heap.size (w.heap.size + 1) hx1 hn (pcopy1_ok _ _ _ m hx1 hI.is y1 y2 fun u hu =>
      (Many.op2 (x := (copyNd (c.at n) c.first m).2) (Q := fun e _ => e = .returned (.int .i64 (copyNd (c.at n) c.first m).1)) (hx1.later u hu).nd hn.lt.1 hI.is.lt.1 (hn.ne hI.is hpn) fun S' T' hS' hT' hd => pcopy15_ok m hS' hT' hd (hI.nd _) (hI.nd _)).mono fun _ _ ⟨he, ht⟩ => ⟨_, he, rfl, ((hx1.later u hu).turn ht).ahead (k1.trans (hu.mono k1.size))⟩))
    generalize copyNd (c.at n) c.first m = q at *
    generalize c.pm.p = p at *
    clear hw1 k1 b0 b1 hx hx1 hpn
    go_enter Tryz.func29, Tryz.ntmps29
    go_wp2_with fail
    rw [HW1.out]
    refine HQ.out.mono ?_
    rintro e w2 ⟨v, rfl, rfl, ht⟩
    have HTU := Lib.hid ht
    clear ht
    go_wp2_with fail
    go_ret
    exact ⟨rfl, HTU.out⟩
  · rw [show cpyCu c n m = (0, c) from by unfold cpyCu; rw [if_pos (.inl hn)]]
    have HQ := Lib.hid (askCp_no n w.heap.size (w.heap.size + 1) hx1 hn)
    clear hw1 k1 b0 b1 hx hx1 hpn
    go_enter Tryz.func29, Tryz.ntmps29
    go_wp2_with fail
    rw [HW1.out]
    refine HQ.out.mono ?_
    rintro e w2 ⟨rfl, rfl⟩
    go_wp2_with fail
    go_ret
    exact ⟨rfl, Turn.same HT.out HK1.out⟩
end
end
end Go.Proofs.YtdhnpmagapbmhaaGreatDoor
