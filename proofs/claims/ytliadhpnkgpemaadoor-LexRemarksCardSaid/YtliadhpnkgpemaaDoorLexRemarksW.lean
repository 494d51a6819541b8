/-
  LexRemarks: remarks and blanks between tokens change nothing: the walk.
-/
import Derived.Test.YtliadhpnkgpemaaDoorLexR
import Derived.Test.YtliadhpnkgpemaaDoorLexTellsW
namespace Go.Proofs.YtliadhpnkgpemaaDoor
open Go.RowKit
set_option maxRecDepth 100000

theorem U8w.next {w w' : World} (h : U8w w) (hb : Below w.heap.size w w') : U8w w' := Utf8Tabs_below h hb

/-- what is written of tokens, with a gap behind each -/
def flatF (g : List UInt8) (l : List (Int × List UInt8)) : List UInt8 := l.flatMap fun t => writtenF t.1 t.2 ++ g
theorem flatF_len (g : List UInt8) : ∀ ts : List Tk, (flatF g (saysT ts)).length ≤ (g.length + 7) * sumT ts
  | [] => by simp [flatF, saysT]
  | t :: ts => by
    have h1 := flatF_len g ts
    have h2 := writtenF_length t.k t.t.data.toList
    have h3 := text_len t.t
    have e : flatF g (saysT (t :: ts)) = writtenF t.k t.t.data.toList ++ g ++ flatF g (saysT ts) := by simp [flatF, saysT, Tk.says]
    have e2 : sumT (t :: ts) = t.t.size + 1 + sumT ts := by simp [sumT]
    rw [e, e2, List.length_append, List.length_append, Nat.mul_add, Nat.mul_add]
    have h4 : 7 * t.t.size ≤ (g.length + 7) * t.t.size := Nat.mul_le_mul_right _ (by omega)
    omega
theorem flatF_next (g : List UInt8) (l : List (Int × List UInt8)) (x : Int × List UInt8) : flatF g (l ++ [x]) = flatF g l ++ (writtenF x.1 x.2 ++ g) := by simp [flatF]
theorem writeF_one (x : Int × List UInt8) : writeF [x] = writtenF x.1 x.2 := by simp [writeF]

/-- a text that may stand between two tokens -/
structure GapT (g : ByteArray) : Prop where
  gap : Gap g.data.toList
  size : g.size ≤ 1000
/-- the four of them -/
def gapAt (s l : ByteArray) : Nat → ByteArray
  | 0 => ⟨#[9, 13, 10, 32]⟩
  | 1 => (⟨#[32, 47, 42]⟩ ++ s) ++ ⟨#[42, 47, 32]⟩
  | 2 => (⟨#[32, 45, 45]⟩ ++ l) ++ ⟨#[10]⟩
  | _ => (⟨#[32, 35]⟩ ++ l) ++ ⟨#[10]⟩
theorem gapAt_ok (s l : ByteArray) (hs : s.size ≤ 100) (hc : Lib.contains s.data.toList ends2 = false) (h43 : s.data.toList[0]? ≠ some 43) (hl : l.data.toList = Lib.mapD lnF s.data.toList) : ∀ k, GapT (gapAt s l k) := by
  obtain ⟨l1, l2⟩ := line_free _ s.data.toList (Nat.le_refl _)
  rw [← hl] at l1 l2
  rw [text_len, text_len] at l2
  intro k
  match k with
  | 0 => exact ⟨gap_blanks, by show ByteArray.size ⟨#[9, 13, 10, 32]⟩ ≤ 1000; decide⟩
  | 1 =>
    refine ⟨?_, ?_⟩
    · have := gap_remark _ hc h43
      show Gap ((⟨#[32, 47, 42]⟩ ++ s ++ ⟨#[42, 47, 32]⟩ : ByteArray).data.toList)
      rw [text_add, text_add]
      exact this
    · show (⟨#[32, 47, 42]⟩ ++ s ++ ⟨#[42, 47, 32]⟩ : ByteArray).size ≤ 1000
      rw [ByteArray.size_append, ByteArray.size_append]
      have : (⟨#[32, 47, 42]⟩ : ByteArray).size = 3 := rfl
      have : (⟨#[42, 47, 32]⟩ : ByteArray).size = 3 := rfl
      omega
  | 2 =>
    refine ⟨?_, ?_⟩
    · have := gap_dashes _ l1
      show Gap ((⟨#[32, 45, 45]⟩ ++ l ++ ⟨#[10]⟩ : ByteArray).data.toList)
      rw [text_add, text_add]
      exact this
    · show (⟨#[32, 45, 45]⟩ ++ l ++ ⟨#[10]⟩ : ByteArray).size ≤ 1000
      rw [ByteArray.size_append, ByteArray.size_append]
      have : (⟨#[32, 45, 45]⟩ : ByteArray).size = 3 := rfl
      have : (⟨#[10]⟩ : ByteArray).size = 1 := rfl
      omega
  | k + 3 =>
    refine ⟨?_, ?_⟩
    · have := gap_hash _ l1
      show Gap ((⟨#[32, 35]⟩ ++ l ++ ⟨#[10]⟩ : ByteArray).data.toList)
      rw [text_add, text_add]
      exact this
    · show (⟨#[32, 35]⟩ ++ l ++ ⟨#[10]⟩ : ByteArray).size ≤ 1000
      rw [ByteArray.size_append, ByteArray.size_append]
      have : (⟨#[32, 35]⟩ : ByteArray).size = 2 := rfl
      have : (⟨#[10]⟩ : ByteArray).size = 1 := rfl
      omega

set_option maxHeartbeats 8000000 in
theorem lexRemarks_walk (A : Option Addr) (n c : Nat) (ts : List Tk) (s : ByteArray) (w : World) (hr : TR w A n ts) (ht : ∀ t ∈ ts, t.t.size ≤ 140737488351232) (hnc : n ≤ c) (hc : c * 24 ≤ 140737488351232) (hs : s.size ≤ maxLen) (hL : Lw w) (hU : U8w w) :
    Calls Tryd.prog 4 #[.slice A n c, .string s] w fun e w' => e = .returned (.bool true) ∧ Below w.heap.size w w' := by
  unfold maxLen at hs
  have H1 := Lib.hid (awake4 w hL)
  have HTS := Lib.hid ht
  clear ht
  go_enter Tryd.func4, Tryd.ntmps4
  go_wp2_with fail
  refine H1.out.mono ?_
  rintro e w2 ⟨rfl, kw2⟩
  have hT := Lib.hid (tokens_ok A n c ts w2 (hr.next kw2) (by omega))
  clear H1
  go_wp2_with fail
  refine hT.out.mono ?_
  rintro e w3 ⟨B3, d3, rfl, r3, k3⟩
  have kw3 := kp_trans kw2 k3
  have hLg := Lib.hid (tlarge_ok B3 n d3 ts w3 r3 (by omega) HTS.out)
  clear hT k3
  by_cases hlg : 2000 < sumT ts
  · rw [decide_eq_true hlg] at hLg
    go_wp2_with fail
    refine hLg.out.mono ?_
    rintro e w4 ⟨rfl, rfl⟩
    go_wp2_with fail
    go_ret
    exact ⟨rfl, kw3⟩
  rw [decide_eq_false hlg] at hLg
  have hn : n ≤ 2000 := by
    have h1 := sumT_len ts
    have h2 := hr.len
    omega
  have hts2 : ∀ t ∈ ts, t.t.size ≤ 1000000 := fun t h => by
    have := sumT_mem h
    omega
  have hM := may_ok A n c ts w3 (hr.next kw3) (by omega) hts2
  cases hmy : mayF ts
  · rw [hmy] at hM
    have HM := Lib.hid hM
    clear hM hts2
    go_wp2_with fail
    refine hLg.out.mono ?_
    rintro e w4 ⟨rfl, rfl⟩
    go_wp2_with fail
    refine HM.out.mono ?_
    rintro e w4 ⟨rfl, k4⟩
    go_wp2_with fail
    go_ret
    exact ⟨rfl, kp_trans kw3 k4⟩
  rw [hmy] at hM
  have HM := Lib.hid hM
  have HMY := Lib.hid hmy
  have HT2 := Lib.hid hts2
  clear hM hts2 hmy
  by_cases hs1 : 100 < s.size
  · go_wp2_with fail
    refine hLg.out.mono ?_
    rintro e w4 ⟨rfl, rfl⟩
    go_wp2_with fail
    refine HM.out.mono ?_
    rintro e w4 ⟨rfl, k4⟩
    go_wp2_with fail
    go_ret
    exact ⟨rfl, kp_trans kw3 k4⟩
  have HC : Hid (∀ u, Lw u → Calls Tryd.prog 17 #[.string s, .string ⟨#[42, 47]⟩] u fun e w' => e = .returned (.bool (Lib.contains s.data.toList ends2)) ∧ w' = u) := Lib.hid (fun u hu => contains_s s ⟨#[42, 47]⟩ u hu (by omega))
  have HP1 : Hid (∀ u, Calls Tryd.prog 18 #[.string s, .string ⟨#[43]⟩] u fun e w' => e = .returned (.bool (begF [43] s.data.toList)) ∧ w' = u) := Lib.hid (fun u => hasPrefix_s s ⟨#[43]⟩ u)
  have hq43 : begF [43] s.data.toList = false → s.data.toList[0]? ≠ some 43 := fun h2 e => by
    cases hsl : s.data.toList with
    | nil => rw [hsl] at e; cases e
    | cons b r =>
      rw [hsl] at e h2
      obtain rfl : b = 43 := by simpa using e
      simp [begF, Lib.hasPrefix, List.isPrefixOf] at h2
  have HP2 := Lib.hid (fun u => hasSuffix_s s ⟨#[42]⟩ u (by omega))
  generalize hb1 : Lib.contains s.data.toList ends2 = b1 at HC
  generalize hb2 : begF [43] s.data.toList = b2 at HP1 hq43
  have HB1 := Lib.hid hb1
  have HQ := Lib.hid hq43
  clear hb1 hb2 hq43
  have HP3 := Lib.hid (fun u => hasPrefix_s s ⟨#[47]⟩ u)
  go_wp2_with fail
  refine hLg.out.mono ?_
  rintro e w4 ⟨rfl, rfl⟩
  go_wp2_with fail
  refine HM.out.mono ?_
  rintro e w5 ⟨rfl, k5⟩
  have kw5 := kp_trans kw3 k5
  clear hLg HM k5
  have HC2 := Lib.hid (HC.out w5 (hL.next kw5))
  clear HC
  go_wp2_with fail
  refine HC2.out.mono ?_
  rintro e w6 ⟨rfl, rfl⟩
  clear HC2
  cases b1
  case true =>
    go_wp2_with fail
    go_ret
    exact ⟨rfl, kw5⟩
  go_wp2_with fail
  refine (HP1.out w6).mono ?_
  rintro e w7 ⟨rfl, rfl⟩
  cases b2
  case true =>
    go_wp2_with fail
    go_ret
    exact ⟨rfl, kw5⟩
  have hq := HQ.out rfl
  have HQ2 := Lib.hid hq
  clear hq HQ
  go_wp2_with fail
  refine (HP2.out w7).mono ?_
  rintro e w8 ⟨rfl, rfl⟩
  generalize Lib.hasSuffix s.data.toList (⟨#[42]⟩ : ByteArray).data.toList = b3 at *
  cases b3
  case true =>
    go_wp2_with fail
    go_ret
    exact ⟨rfl, kw5⟩
  go_wp2_with fail
  refine (HP3.out w8).mono ?_
  rintro e w9 ⟨rfl, rfl⟩
  generalize begF (⟨#[47]⟩ : ByteArray).data.toList s.data.toList = b4 at *
  cases b4
  case true =>
    go_wp2_with fail
    go_ret
    exact ⟨rfl, kw5⟩
  have HMp := Lib.hid (map_s s w9 (by omega) (hU.next kw5))
  clear HP1 HP2 HP3
  go_wp2_with fail
  refine HMp.out.mono ?_
  rintro e wm ⟨l, rfl, hl, km⟩
  have kwm := kp_trans kw5 km
  have hgap := Lib.hid (gapAt_ok s l (by omega) HB1.out HQ2.out hl)
  have hl2 : l.size ≤ 400 := by
    have h1 := (line_free _ s.data.toList (Nat.le_refl _)).2
    rw [← hl, text_len, text_len] at h1
    omega
  have z0 : (⟨#[32, 47, 42]⟩ : ByteArray).size = 3 := rfl
  have z1 : (⟨#[32, 47, 42]⟩ ++ s : ByteArray).size ≤ 103 := by rw [ByteArray.size_append]; omega
  have z2 : (⟨#[42, 47, 32]⟩ : ByteArray).size = 3 := rfl
  have z3 : (⟨#[32, 47, 42]⟩ ++ s ++ ⟨#[42, 47, 32]⟩ : ByteArray).size ≤ 106 := by rw [ByteArray.size_append]; omega
  have z4 : (⟨#[32, 45, 45]⟩ : ByteArray).size = 3 := rfl
  have z5 : (⟨#[32, 45, 45]⟩ ++ l : ByteArray).size ≤ 403 := by rw [ByteArray.size_append]; omega
  have z6 : (⟨#[10]⟩ : ByteArray).size = 1 := rfl
  have z7 : (⟨#[32, 45, 45]⟩ ++ l ++ ⟨#[10]⟩ : ByteArray).size ≤ 404 := by rw [ByteArray.size_append]; omega
  have z8 : (⟨#[32, 35]⟩ : ByteArray).size = 2 := rfl
  have z9 : (⟨#[32, 35]⟩ ++ l : ByteArray).size ≤ 402 := by rw [ByteArray.size_append]; omega
  have z10 : (⟨#[32, 35]⟩ ++ l ++ ⟨#[10]⟩ : ByteArray).size ≤ 403 := by rw [ByteArray.size_append]; omega
  clear HMp hl km HB1 HQ2
  go_wp2_with fail
  have kw1 := kp_alloc kwm (.cells #[.string ⟨#[9, 13, 10, 32]⟩, .string (⟨#[32, 47, 42]⟩ ++ s ++ ⟨#[42, 47, 32]⟩), .string (⟨#[32, 45, 45]⟩ ++ l ++ ⟨#[10]⟩), .string (⟨#[32, 35]⟩ ++ l ++ ⟨#[10]⟩)] 9)
  have hrd := Rd.new wm 9 [.string ⟨#[9, 13, 10, 32]⟩, .string (⟨#[32, 47, 42]⟩ ++ s ++ ⟨#[42, 47, 32]⟩), .string (⟨#[32, 45, 45]⟩ ++ l ++ ⟨#[10]⟩), .string (⟨#[32, 35]⟩ ++ l ++ ⟨#[10]⟩)]
  have hsz1 : (wm.alloc (.cells #[.string ⟨#[9, 13, 10, 32]⟩, .string (⟨#[32, 47, 42]⟩ ++ s ++ ⟨#[42, 47, 32]⟩), .string (⟨#[32, 45, 45]⟩ ++ l ++ ⟨#[10]⟩), .string (⟨#[32, 35]⟩ ++ l ++ ⟨#[10]⟩)] 9)).heap.size = wm.heap.size + 1 := by simp
  generalize hw1 : wm.alloc (.cells #[.string ⟨#[9, 13, 10, 32]⟩, .string (⟨#[32, 47, 42]⟩ ++ s ++ ⟨#[42, 47, 32]⟩), .string (⟨#[32, 45, 45]⟩ ++ l ++ ⟨#[10]⟩), .string (⟨#[32, 35]⟩ ++ l ++ ⟨#[10]⟩)] 9 ) = w1 at kw1 hsz1 ⊢
  change Rd (wm.alloc (.cells #[.string ⟨#[9, 13, 10, 32]⟩, .string (⟨#[32, 47, 42]⟩ ++ s ++ ⟨#[42, 47, 32]⟩), .string (⟨#[32, 45, 45]⟩ ++ l ++ ⟨#[10]⟩), .string (⟨#[32, 35]⟩ ++ l ++ ⟨#[10]⟩)] 9)) _ _ _ at hrd
  rw [hw1, ← hsz1] at hrd
  clear hw1 hsz1
  generalize (⟨wm.heap.size, 0, none⟩ : Addr) = ad at hrd ⊢
  have hG : ∀ u, Below w1.heap.size w1 u → ∀ k, k < 4 → u.cell? (ad.add k) = some (.string (gapAt s l k)) := fun u hu k hk => by
    rcases hrd with h | ⟨ad', e, hb, hc⟩
    · cases h
    · injection e with e
      subst e
      refine (hu.cell (by rw [add_block]; exact hb)).trans (hc k _ ?_)
      match k, hk with
      | 0, _ => rfl
      | 1, _ => rfl
      | 2, _ => rfl
      | 3, _ => rfl
  have HG := Lib.hid hG
  clear hG hrd z0 z1 z2 z3 z4 z5 z6 z7 z8 z9 z10 hl2 kwm
  have hlen := Lib.hid hr.len
  go_loopw [57] (fun v wr => ∃ (k : Nat), v = .int .i64 k ∧ k ≤ 4 ∧ Below w1.heap.size w1 wr) (fun v _ => 4 - (intOf v).toNat)
  case atStart => exact ⟨0, rfl, Nat.zero_le _, Below.refl _ _⟩
  case round =>
    obtain ⟨k, rfl, hk, kr⟩ := hrel
    have kwr := kp_trans kw1 kr
    by_cases hlt : k < 4
    · have c0 := HG.out wr kr k hlt
      have hgk := hgap.out k
      generalize gapAt s l k = g at c0 hgk
      obtain ⟨wo, hwo⟩ : ∃ x, x = wr := ⟨wr, rfl⟩
      subst hwo
      have hBd := Bd.new wo wo.heap.size (Nat.le_refl _)
      have hz0 : wo.heap.size < (wo.alloc (.cells #[.pointer none, .slice none 0 0] 49)).heap.size := by simp
      have hgs := hgk.size
      have hgl := text_len g
      have HBd := Lib.hid hBd
      have HZ0 := Lib.hid hz0
      have HGL := Lib.hid hgl
      clear hBd hz0 hgl
      go_wp2_with fail
      go_loopw [63] (fun v u => ∃ (j : Nat), v = .int .i64 j ∧ j ≤ n ∧ Bd wo.heap.size wo.heap.size (flatF g.data.toList (saysT (ts.take j))) u ∧ Below wo.heap.size wo u ∧ wo.heap.size < u.heap.size) (fun v _ => n - (intOf v).toNat)
      case atStart => exact ⟨0, rfl, Nat.zero_le _, HBd.out, kp_new _ _, HZ0.out⟩
      case round =>
        obtain ⟨j, rfl, hj, hI, ko, hzr⟩ := hrel
        clear HBd HZ0 HG c0
        by_cases hjl : j < n
        · have hkl : j < ts.length := by rw [hlen.out]; exact hjl
          obtain ⟨ad2, rfl, hbl, hcells⟩ := hr.at_ hkl
          have kwr2 := kp_trans kwr ko
          obtain ⟨c0, c1⟩ := hcells wr kwr2
          have hfl := flatF_len g.data.toList (ts.take j)
          rw [HGL.out] at hfl
          have hsum := sumT_at hkl
          have hfl2 : (flatF g.data.toList (saysT (ts.take j))).length ≤ 3000000 := by
            have : (g.size + 7) * sumT (ts.take j) ≤ 1007 * 2000 := Nat.mul_le_mul (by omega) (by omega)
            omega
          have hnext : flatF g.data.toList (saysT (ts.take (j + 1))) = flatF g.data.toList (saysT (ts.take j)) ++ (writtenF ts[j].k ts[j].t.data.toList ++ g.data.toList) := by
            rw [List.take_succ_eq_append_getElem hkl, saysT_append]
            exact flatF_next _ _ _
          generalize ts[j].k = kd at *
          generalize ts[j].t = tx at *
          generalize flatF g.data.toList (saysT (ts.take j)) = fl at *
          have HN := Lib.hid hnext
          clear hcells hnext hfl
          go_wp2_with fail
          have hTR : TR ((wr.alloc (.cells #[.int .i64 kd, .string tx] 24)).alloc (.cells #[.int .i64 kd, .string tx] 24)) (some ⟨wr.heap.size + 1, 0, none⟩) 1 [⟨kd, tx⟩] := by
            have h := Rd.new (wr.alloc (.cells #[.int .i64 kd, .string tx] 24)) 24 [.int .i64 kd, .string tx]
            have hz : (wr.alloc (.cells #[.int .i64 kd, .string tx] 24)).heap.size = wr.heap.size + 1 := by simp
            rw [hz] at h
            exact ⟨rfl, by rw [show ((wr.alloc (.cells #[.int .i64 kd, .string tx] 24)).alloc (.cells #[.int .i64 kd, .string tx] 24)).heap.size = wr.heap.size + 1 + 1 from by simp]; exact h⟩
          have kwr3 := kp_alloc (kp_alloc kwr2 (.cells #[.int .i64 kd, .string tx] 24)) (.cells #[.int .i64 kd, .string tx] 24)
          have ko3 := kp_alloc (kp_alloc ko (.cells #[.int .i64 kd, .string tx] 24)) (.cells #[.int .i64 kd, .string tx] 24)
          have hI3 := (hI.alloc (.cells #[.int .i64 kd, .string tx] 24)).alloc (.cells #[.int .i64 kd, .string tx] 24)
          have hm1 : sumT [(⟨kd, tx⟩ : Tk)] = tx.size + 1 := by simp [sumT]
          refine (write_ok _ 1 1 [⟨kd, tx⟩] _ hTR (by omega) (hL.next kwr3)).mono ?_
          rintro e w2 ⟨r, rfl, hrr, k2⟩
          have hr1 : r.data.toList = writtenF kd tx.data.toList := hrr.trans (writeF_one _)
          have hrl : r.size ≤ 2 * tx.size + 7 := by
            have h1 := writtenF_length kd tx.data.toList
            have h2 := text_len tx
            have h3 := text_len r
            rw [hr1] at h3
            omega
          have hrg : (r ++ g).size ≤ 100000 := by rw [ByteArray.size_append]; omega
          have ko4 := kp_trans ko3 k2
          have HS := Lib.hid (writeString_s wo.heap.size wo.heap.size fl (r ++ g) w2 (hI3.next k2) (by omega) (by omega) ko4.size)
          have hR1 := Lib.hid hr1
          have hz4 : wo.heap.size < w2.heap.size := by
            have h1 := k2.size
            have h2 : ((wr.alloc (.cells #[.int .i64 kd, .string tx] 24)).alloc (.cells #[.int .i64 kd, .string tx] 24)).heap.size = wr.heap.size + 1 + 1 := by simp
            omega
          clear hTR hI3 hm1 hrr hr1 ko3 kwr3 k2
          go_wp2_with fail
          refine HS.out.mono ?_
          rintro e w3 ⟨rfl, hI4, b3, _⟩
          go_wp2_with fail
          go_roundw
          case rel =>
            rw [show decide ((k : Int) < 4) = true from decide_eq_true (by omega)]
            refine ⟨_, _, _, _, _, _, _, _, _, _, _, _, ⟨j + 1, ?_, by omega, ?_, ko4.trans b3, Nat.lt_of_lt_of_le hz4 b3.size⟩, rfl⟩
            · go_num
            · rw [HN.out, ← hR1.out, ← text_add]
              exact hI4
          case measure => simp [intOf]; omega
        · obtain rfl : j = n := by omega
          rw [List.take_of_length_le (by rw [hlen.out]; exact Nat.le_refl _)] at hI
          have hback := lex_back hgk.gap (saysT ts) (fun t h => by
            obtain ⟨x, hx, rfl⟩ := List.mem_map.1 h
            exact List.all_eq_true.1 HMY.out x hx)
          change lexF (flatF g.data.toList (saysT ts)) = some (saysT ts) at hback
          have hfl := flatF_len g.data.toList ts
          rw [HGL.out] at hfl
          have hfl2 : (flatF g.data.toList (saysT ts)).length ≤ 3000000 := by
            have : (g.size + 7) * sumT ts ≤ 1007 * 2000 := Nat.mul_le_mul (by omega) (by omega)
            omega
          have hLA : lexA (flatF g.data.toList (saysT ts)) = if 200 < (flatF g.data.toList (saysT ts)).length then ([], 4) else (saysT ts, 0) := by
            unfold lexA
            rw [hback]
          generalize flatF g.data.toList (saysT ts) = fl at *
          have HLA := Lib.hid hLA
          have HS := Lib.hid (string2_s wo.heap.size wo.heap.size fl wr hI ko.size)
          clear hback hfl hLA hI
          go_wp2_with fail
          refine HS.out.mono ?_
          rintro e w5 ⟨r, rfl, hrr, hI5, k5⟩
          have ko5 := ko.trans k5
          have hrl : r.size ≤ 3000000 := by rw [← text_len, hrr]; exact hfl2
          have hX := Lib.hid (lex_ok r w5 (by unfold maxLen; omega) (hL.next (kp_trans kwr ko5)))
          have HRR := Lib.hid hrr
          clear HS hrr
          go_wp2_with fail
          refine hX.out.mono ?_
          rintro e w6 ⟨A1, n1, c1, er, ts1, rfl, ho1, hs6, k6⟩
          rw [HRR.out, HLA.out] at hs6
          have ko6 := kp_trans ko5 k6
          have HLn := Lib.hid (len_s wo.heap.size wo.heap.size fl w6 (hI5.next k6))
          clear hX hI5
          by_cases hlong : 200 < fl.length
          · rw [if_pos hlong] at hs6
            simp only [Prod.mk.injEq] at hs6
            obtain ⟨_, rfl⟩ := hs6
            go_wp2_with fail
            refine HLn.out.mono ?_
            rintro e w7 ⟨rfl, rfl⟩
            go_wp2_with fail
            go_roundw
            case rel => exact ⟨k + 1, by go_num, by omega, kp_trans kr ko6⟩
            case measure => simp [intOf]; omega
          · rw [if_neg hlong] at hs6
            simp only [Prod.mk.injEq] at hs6
            obtain ⟨hts, rfl⟩ := hs6
            obtain rfl := saysT_inj hts
            have hn1 : n1 = j := by rw [← ho1.len, hlen.out]
            subst hn1
            have kw6 := kp_trans kwr ko6
            have HTa := Lib.hid (tokens_ok A1 n1 c1 ts1 w6 ho1.tr (by omega))
            go_wp2_with fail
            refine HLn.out.mono ?_
            rintro e w7 ⟨rfl, rfl⟩
            go_wp2_with fail
            refine HTa.out.mono ?_
            rintro e w8 ⟨B8, d8, rfl, r8, k8⟩
            have kw8 := kp_trans kw6 k8
            have HTb := Lib.hid (tokens_ok A n1 c ts1 w8 (hr.next kw8) (by omega))
            clear HTa HLn
            go_wp2_with fail
            refine HTb.out.mono ?_
            rintro e w9 ⟨B9, d9, rfl, r9, k9⟩
            have HSm := Lib.hid (tsame_ok B8 B9 n1 n1 d8 d9 ts1 ts1 w9 (r8.next k9) r9 (by omega) (by omega) true (Lib.hid (by simp)))
            clear HTb
            go_wp2_with fail
            refine HSm.out.mono ?_
            rintro e w10 ⟨rfl, k10⟩
            go_wp2_with fail
            go_roundw
            case rel => exact ⟨k + 1, by go_num, by omega, kp_trans (kp_trans (kp_trans (kp_trans kr ko6) k8) k9) k10⟩
            case measure => simp [intOf]; omega
    · obtain rfl : k = 4 := by omega
      go_wp2_with fail
      go_ret
      exact ⟨rfl, kwr⟩
end Go.Proofs.YtliadhpnkgpemaaDoor
