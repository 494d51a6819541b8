/-
  Contracts and plain functions that the law stands on, part 4 of 5.
-/
import Derived.Test.YtaimmdhjfccnkaaDoorQ3
import Derived.ProofKit
import Derived.OpenShut
import Derived.JoinedCond
import Derived.Deep.Slices
import Derived.Lib.SmallJoins
import Derived.SizedLaws
import Derived.Test.YtaimmdhjfccnkaaDoorCards
import Derived.Test.YtaimmdhjfccnkaaDoorTie
import Derived.Shelf.Vars
import Derived.SevenTiedAt
import Derived.Stop.Joined
import Derived.LaidMore
import Derived.Lay
import Derived.Handed
import Derived.KernelRfl
namespace Go.Proofs.YtaimmdhjfccnkaaDoor
/- Is a table more than is looked at: contract of the law's own helper. -/
section
open Go.RowKit
set_option maxRecDepth 100000

set_option maxHeartbeats 2000000 in
theorem large_ok (A : Option Addr) (n c : Nat) (ts : List Kv) (w : World) (h : KR w A n ts) (hn : n * 32 ≤ 140737488351232) (ht : ∀ t ∈ ts, t.k.size ≤ 140737488351232 ∧ t.v.size ≤ 140737488351232) :
    Calls Tryd.prog 7 #[.slice A n c] w fun e w' => ∃ b, e = .returned (.bool b) ∧ (b = false → n ≤ 100 ∧ Srt ts) ∧ Below w.heap.size w w' := by
  have HL := Lib.hid h.len
  have HH := Lib.hid h
  have HT := Lib.hid ht
  clear h ht
  by_cases h100 : n ≤ 100
  · have hn100 : decide ((100 : Int) < (n : Int)) = false := decide_eq_false (by omega)
    go_enter Tryd.func7, Tryd.ntmps7
    go_wp2_with fail
    go_loopw [3, 8] (fun v i wr => ∃ k m : Nat, k ≤ n ∧ i = .int .i64 k ∧ v = .int .i64 m ∧ m ≤ k * 281474976702465 ∧ Below w.heap.size w wr) (fun _ i _ => n - (intOf i).toNat)
    case atStart => exact ⟨0, 0, Nat.zero_le _, rfl, rfl, by omega, Below.refl _ _⟩
    case round =>
      obtain ⟨k, m, hk, rfl, rfl, hm, kw⟩ := hrel
      by_cases hlt : k < n
      · have hkl : k < ts.length := by rw [HL.out]; exact hlt
        obtain ⟨ad, rfl, _, hc⟩ := HH.out.at_ hkl
        obtain ⟨c0, c1⟩ := hc _ kw
        obtain ⟨hz1, hz2⟩ := HT.out _ (List.getElem_mem hkl)
        have hm2 : m ≤ 28147497670246500 := by omega
        clear hc
        generalize ts[k].k = x at *
        generalize ts[k].v = y at *
        go_wp2_with fail
        go_roundw
        case rel => exact ⟨k + 1, m + (x.size + y.size + 1), by omega, by go_num, by go_num, by omega, kp_alloc kw _⟩
        case measure => simp [intOf]; omega
      · obtain rfl : k = n := by omega
        by_cases hm1 : (10000 : Int) < (m : Int)
        · go_wp2_with fail
          go_ret
          exact ⟨true, rfl, (fun h => by cases h), kw⟩
        · have HP := Lib.hid (pairs_ok A k c ts wr (HH.out.next kw) hn)
          go_wp2_with fail
          refine HP.out.mono ?_
          rintro e w1 ⟨A1, c1, rfl, h1, k1⟩
          have HTB := Lib.hid (table_ok A1 k c1 ts w1 h1 (by omega) _ (Lib.hid rfl))
          have hts := tab_srt ts
          generalize tabF ts = b at *
          have HTS := Lib.hid hts
          clear hts HP
          go_wp2_with fail
          refine HTB.out.mono ?_
          rintro e w2 ⟨rfl, m2, rfl⟩
          have K2 := (kp_trans kw k1).trans ((kp_drewN w1 m2).mono (kp_trans kw k1).size)
          cases b
          all_goals
            go_wp2_with fail
            go_ret
          · exact ⟨true, rfl, (fun h => by cases h), K2⟩
          · exact ⟨false, rfl, fun _ => ⟨h100, HTS.out.1 trivial⟩, K2⟩
  · have hn100 : (100 : Int) < (n : Int) := by omega
    go_enter Tryd.func7, Tryd.ntmps7
    go_wp2_with fail
    go_loopw [3, 8] (fun v i wr => ∃ (k : Nat) (m : Int), k ≤ n ∧ i = .int .i64 k ∧ v = .int .i64 m ∧ Below w.heap.size w wr) (fun _ i _ => n - (intOf i).toNat)
    case atStart => exact ⟨0, 0, Nat.zero_le _, rfl, rfl, Below.refl _ _⟩
    case round =>
      obtain ⟨k, m, hk, rfl, rfl, kw⟩ := hrel
      by_cases hlt : k < n
      · have hkl : k < ts.length := by rw [HL.out]; exact hlt
        obtain ⟨ad, rfl, _, hc⟩ := HH.out.at_ hkl
        obtain ⟨c0, c1⟩ := hc _ kw
        obtain ⟨hz1, hz2⟩ := HT.out _ (List.getElem_mem hkl)
        clear hc
        generalize ts[k].k = x at *
        generalize ts[k].v = y at *
        go_wp2_with fail
        go_roundw
        case rel => exact ⟨k + 1, _, by omega, by go_num, rfl, kp_alloc kw _⟩
        case measure => simp [intOf]; omega
      · obtain rfl : k = n := by omega
        go_wp2_with fail
        go_ret
        exact ⟨true, rfl, (fun h => by cases h), kw⟩
end

/- What the document's layer 6 reads and writes of a table, pair by pair: the same as the plain functions (no function of the program is named here). -/
section
open Go.RowKit
set_option maxRecDepth 100000

structure WSt where
  out : List Kv
  n : Int
  done : Bool
/-- a pair is looked at: what is written -/
def stepW (d : Int) (k v : ByteArray) (s : WSt) (p : Kv) : WSt :=
  if d = 3 ∧ s.done = false ∧ ltB k p.k = true then ⟨s.out ++ [⟨k, v⟩] ++ [p], s.n, true⟩
  else if p.k ≠ k ∨ d < 3 ∨ 5 < d then ⟨s.out ++ [p], s.n, s.done⟩
  else ⟨if d = 5 then s.out else s.out ++ [⟨k, v⟩], 1, true⟩
def finalW (d : Int) (k v : ByteArray) (s : WSt) : List Kv × Int := (if d = 3 ∧ s.done = false then s.out ++ [⟨k, v⟩] else s.out, if d = 3 then 1 else s.n)

theorem foldW_below (d : Int) (k v : ByteArray) : ∀ (l : List Kv) (s : WSt), (∀ p ∈ l, ltB p.k k = true) → l.foldl (stepW d k v) s = ⟨s.out ++ l, s.n, s.done⟩
  | [], s, _ => by simp
  | p :: r, s, h => by
    have hp := h p (by simp)
    have e : stepW d k v s p = ⟨s.out ++ [p], s.n, s.done⟩ := by
      unfold stepW
      rw [if_neg (by rw [ltB_asymm hp]; simp), if_pos (.inl (ltB_ne hp))]
    rw [List.foldl_cons, e, foldW_below d k v r _ fun q hq => h q (List.mem_cons_of_mem _ hq)]
    simp
theorem foldW_above (d : Int) (k v : ByteArray) : ∀ (l : List Kv) (s : WSt), (∀ p ∈ l, ltB k p.k = true) → (d ≠ 3 ∨ s.done = true) → l.foldl (stepW d k v) s = ⟨s.out ++ l, s.n, s.done⟩
  | [], s, _, _ => by simp
  | p :: r, s, h, hd => by
    have hp := h p (by simp)
    have e : stepW d k v s p = ⟨s.out ++ [p], s.n, s.done⟩ := by
      unfold stepW
      rw [if_neg (by rintro ⟨h1, h2, _⟩; rcases hd with hd | hd; exact hd h1; rw [hd] at h2; cases h2), if_pos (.inl (ltB_ne hp).symm)]
    rw [List.foldl_cons, e, foldW_above d k v r ⟨s.out ++ [p], s.n, s.done⟩ (fun q hq => h q (List.mem_cons_of_mem _ hq)) hd]
    simp
theorem foldW_put (k v : ByteArray) {l : List Kv} {s : WSt} (h : ∀ p ∈ l, ltB k p.k = true) (hd : s.done = false) : finalW 3 k v (l.foldl (stepW 3 k v) s) = (s.out ++ ⟨k, v⟩ :: l, 1) := by
  cases l with
  | nil => simp [finalW, hd]
  | cons p r =>
    have hp := h p (by simp)
    have e : stepW 3 k v s p = ⟨s.out ++ [⟨k, v⟩] ++ [p], s.n, true⟩ := by
      unfold stepW
      rw [if_pos ⟨rfl, hd, hp⟩]
    rw [List.foldl_cons, e, foldW_above 3 k v r _ (fun q hq => h q (List.mem_cons_of_mem _ hq)) (.inr rfl)]
    simp [finalW]
theorem fold_there (d : Int) (k v qv : ByteArray) (a r : List Kv) (hb : ∀ p ∈ a, ltB p.k k = true) (ha : ∀ p ∈ r, ltB k p.k = true) :
    finalW d k v ((a ++ ⟨k, qv⟩ :: r).foldl (stepW d k v) ⟨[], 0, false⟩) = if d = 3 ∨ d = 4 then (a ++ ⟨k, v⟩ :: r, 1) else if d = 5 then (a ++ r, 1) else (a ++ ⟨k, qv⟩ :: r, 0) := by
  rw [List.foldl_append, foldW_below d k v _ _ hb, List.foldl_cons]
  by_cases h3 : d < 3 ∨ 5 < d
  · have e1 : stepW d k v ⟨[] ++ a, 0, false⟩ ⟨k, qv⟩ = ⟨a ++ [⟨k, qv⟩], 0, false⟩ := by
      unfold stepW
      rw [if_neg (by omega), if_pos (.inr h3)]
      simp
    rw [e1, foldW_above d k v r _ ha (.inl (by omega)), if_neg (by omega), if_neg (by omega)]
    simp only [finalW]
    rw [if_neg (by omega), if_neg (by omega)]
    simp
  · have e1 : stepW d k v ⟨[] ++ a, 0, false⟩ ⟨k, qv⟩ = ⟨if d = 5 then a else a ++ [⟨k, v⟩], 1, true⟩ := by
      unfold stepW
      rw [if_neg (by rw [ltB_irrefl]; simp), if_neg (by
        rintro (h | h)
        · exact h rfl
        · exact h3 h)]
      simp
    rw [e1, foldW_above d k v r _ ha (.inr rfl)]
    simp only [finalW]
    rw [if_neg (by simp)]
    by_cases h5 : d = 5
    · subst h5
      simp
    · have h34 : d = 3 ∨ d = 4 := by omega
      rw [if_neg h5, if_pos h34]
      have e1 : (if d = 3 then (1 : Int) else 1) = 1 := by split <;> rfl
      rw [e1]
      simp
theorem fold_away (d : Int) (k v : ByteArray) (a r : List Kv) (hb : ∀ p ∈ a, ltB p.k k = true) (ha : ∀ p ∈ r, ltB k p.k = true) :
    finalW d k v ((a ++ r).foldl (stepW d k v) ⟨[], 0, false⟩) = if d = 3 then (a ++ ⟨k, v⟩ :: r, 1) else (a ++ r, 0) := by
  rw [List.foldl_append, foldW_below d k v _ _ hb]
  by_cases h3 : d = 3
  · subst h3
    rw [foldW_put k v ha rfl]
    simp
  · rw [foldW_above d k v r _ ha (.inl h3), if_neg h3]
    simp only [finalW]
    rw [if_neg (fun h => h3 h.1), if_neg h3]
    simp
theorem fold_writes (d : Int) (k v : ByteArray) {l : List Kv} (hs : Srt l) : finalW d k v (l.foldl (stepW d k v) ⟨[], 0, false⟩) = writesF d k v l := by
  have hb := front_below (k := k) (l := l)
  have ha := rest_above (k := k) hs
  have el : l.take (posF k l) ++ l.drop (posF k l) = l := List.take_append_drop _ _
  have hw : writesF d k v l = if d = 3 ∨ (d = 4 ∧ thereF k l = true) then (l.take (posF k l) ++ ⟨k, v⟩ :: restF k l, 1) else if d = 5 ∧ thereF k l = true then (l.take (posF k l) ++ restF k l, 1) else (l, 0) := rfl
  cases ht : thereF k l with
  | true =>
    obtain ⟨hp, e⟩ := there_lt ht
    have hr : restF k l = l.drop (posF k l + 1) := by unfold restF; rw [ht]; rfl
    rw [hr] at ha hw
    rw [List.drop_eq_getElem_cons hp] at el
    have e2 : l[posF k l] = ⟨k, l[posF k l].v⟩ := by
      have : ∀ q : Kv, q.k = k → q = ⟨k, q.v⟩ := fun q h => by cases q; cases h; rfl
      exact this _ e
    rw [e2] at el
    have := fold_there d k v (l[posF k l]).v _ _ hb ha
    rw [el] at this
    rw [this, hw, ht]
    simp
  | false =>
    have hr : restF k l = l.drop (posF k l) := by unfold restF; rw [ht]; rfl
    rw [hr] at ha hw
    have := fold_away d k v _ _ hb ha
    rw [el] at this
    rw [this, hw, ht]
    simp

/-- a pair is looked at: what is read -/
def stepR (d : Int) (k : ByteArray) (s : List ByteArray) (p : Kv) : List ByteArray :=
  if d = 1 ∧ p.k = k then s ++ [p.v] else if d = 2 ∧ s.length < 20 then s ++ [p.k, p.v] else s
theorem foldR_get (k : ByteArray) : ∀ (l : List Kv) (s : List ByteArray), (∀ p ∈ l, p.k ≠ k) → l.foldl (stepR 1 k) s = s
  | [], _, _ => rfl
  | p :: r, s, h => by
    have e : stepR 1 k s p = s := by
      unfold stepR
      rw [if_neg (fun e => h p (by simp) e.2), if_neg (by omega)]
    rw [List.foldl_cons, e]
    exact foldR_get k r s fun q hq => h q (List.mem_cons_of_mem _ hq)
theorem foldR_all (k : ByteArray) : ∀ (l : List Kv) (s : List ByteArray) (j : Nat), s.length = 2 * j → j ≤ 10 → l.foldl (stepR 2 k) s = s ++ ((l.take (10 - j)).flatMap fun p => [p.k, p.v])
  | [], s, _, _, _ => by simp
  | p :: r, s, j, hs, hj => by
    rw [List.foldl_cons]
    by_cases h : j < 10
    · have e : stepR 2 k s p = s ++ [p.k, p.v] := by
        unfold stepR
        rw [if_neg (by omega), if_pos ⟨rfl, by omega⟩]
      rw [e, foldR_all k r _ (j + 1) (by rw [List.length_append, hs]; simp; omega) (by omega), show 10 - j = (10 - (j + 1)) + 1 from by omega, List.take_succ_cons]
      simp
    · obtain rfl : j = 10 := by omega
      have e : stepR 2 k s p = s := by
        unfold stepR
        rw [if_neg (by omega), if_neg (by omega)]
      rw [e, foldR_all k r s 10 hs (Nat.le_refl _)]
      simp
theorem foldR_other (d : Int) (k : ByteArray) (h1 : d ≠ 1) (h2 : d ≠ 2) : ∀ (l : List Kv) (s : List ByteArray), l.foldl (stepR d k) s = s
  | [], _ => rfl
  | p :: r, s => by
    have e : stepR d k s p = s := by
      unfold stepR
      rw [if_neg (fun e => h1 e.1), if_neg (fun e => h2 e.1)]
    rw [List.foldl_cons, e]
    exact foldR_other d k h1 h2 r s
theorem fold_reads (d : Int) (k : ByteArray) {l : List Kv} (hs : Srt l) : l.foldl (stepR d k) [] = readsF d k l := by
  by_cases h1 : d = 1
  · subst h1
    have hb := front_below (k := k) (l := l)
    have ha := rest_above (k := k) hs
    have el : l.take (posF k l) ++ l.drop (posF k l) = l := List.take_append_drop _ _
    have hw : readsF 1 k l = if thereF k l then [(l.getD (posF k l) default).v] else [] := by unfold readsF; rw [if_pos rfl]
    cases ht : thereF k l with
    | true =>
      obtain ⟨hp, e⟩ := there_lt ht
      have hr : restF k l = l.drop (posF k l + 1) := by unfold restF; rw [ht]; rfl
      rw [hr] at ha
      rw [hw, ht, if_pos rfl, List.getD_eq_getElem?_getD, List.getElem?_eq_getElem hp, Option.getD_some]
      rw [List.drop_eq_getElem_cons hp] at el
      have e3 : stepR 1 k [] l[posF k l] = [l[posF k l].v] := by
        unfold stepR
        rw [if_pos ⟨rfl, e⟩]
        rfl
      conv => lhs; rw [← el]
      rw [List.foldl_append, foldR_get k _ _ fun p hp => ltB_ne (hb p hp), List.foldl_cons, e3, foldR_get k _ _ fun p hp => (ltB_ne (ha p hp)).symm]
    | false =>
      have hr : restF k l = l.drop (posF k l) := by unfold restF; rw [ht]; rfl
      rw [hr] at ha
      rw [hw, ht, if_neg (by simp)]
      conv => lhs; rw [← el]
      rw [List.foldl_append, foldR_get k _ _ fun p hp => ltB_ne (hb p hp), foldR_get k _ _ fun p hp => (ltB_ne (ha p hp)).symm]
  · by_cases h2 : d = 2
    · subst h2
      rw [foldR_all k l [] 0 rfl (by omega)]
      rfl
    · rw [foldR_other d k h1 h2]
      unfold readsF
      rw [if_neg h1, if_neg h2]
end

/- The document's layer 6: what is read of a table and written to it: contracts. -/
section
open Go.RowKit
set_option maxRecDepth 100000

set_option maxHeartbeats 4000000 in
theorem rreads_ok (d : Int) (k v : ByteArray) (A : Option Addr) (n c : Nat) (ts : List Kv) (w : World) (h : KR w A n ts) (hs : Srt ts) (hn : n ≤ 1000) :
    Calls Tryd.prog 13 #[.agg #[.int .i64 d, .string k, .string v], .slice A n c] w fun e w' => ∃ A' n' c', e = .returned (.slice A' n' c') ∧ XR w' A' n' (readsF d k ts) ∧ n' ≤ 2000 ∧ Below w.heap.size w w' := by
  obtain ⟨i0, hi, hz0, hz1, hz2⟩ := info_parts strinfo6
  have kw := kp_new w (.cells #[.int .i64 d, .string k, .string v] 32)
  have HF := Lib.hid (fold_reads d k hs)
  have HL := Lib.hid h.len
  have HH := Lib.hid h
  have hbx : ∀ u, Below (w.alloc (.cells #[.int .i64 d, .string k, .string v] 32)).heap.size (w.alloc (.cells #[.int .i64 d, .string k, .string v] 32)) u → _ := fun u hu => box3 hu
  have HBX := Lib.hid hbx
  have h0 := kp_new (w.alloc (.cells #[.int .i64 d, .string k, .string v] 32)) (.cells #[] 9)
  have HK0 := Lib.hid h0
  have hown0 : Hid (((w.alloc (.cells #[.int .i64 d, .string k, .string v] 32)).alloc (.cells #[] 9)).ownsRow (w.heap.size + 1) 9 1 (.slice (some ⟨w.heap.size + 1, 0, none⟩) 0 0) 0 []) := Lib.hid (by
    have := own_new_s (w.alloc (.cells #[.int .i64 d, .string k, .string v] 32)) (w.heap.size + 1) 1 9 0 [] rfl (by simp) (by simp [maxLen])
    simpa using this)
  clear hbx h hs h0
  go_enter Tryd.func13, Tryd.ntmps13
  go_wp2_with fail
  go_loopw [5, 6] (fun o i wr => ∃ (q z : Nat) (B : Option Addr) (e : Nat), q ≤ n ∧ z ≤ 2 * q ∧ i = .int .i64 q ∧ o = .slice B z e ∧ wr.ownsRow (w.heap.size + 1) 9 1 (.slice B z e) z (tvs ((ts.take q).foldl (stepR d k) [])) ∧ Below (w.alloc (.cells #[.int .i64 d, .string k, .string v] 32)).heap.size (w.alloc (.cells #[.int .i64 d, .string k, .string v] 32)) wr) (fun _ i _ => n - (intOf i).toNat)
  case atStart => exact ⟨0, 0, _, 0, Nat.zero_le _, Nat.zero_le _, rfl, rfl, hown0.out, HK0.out⟩
  case round =>
    obtain ⟨q, z, B, e, hq, hz, rfl, rfl, ho, kr⟩ := hrel
    have K0 := kp_trans kw kr
    have hsw : w.heap.size + 1 ≤ wr.heap.size := by have := kr.size; simpa using this
    by_cases hlt : q < n
    · have hkl : q < ts.length := by rw [HL.out]; exact hlt
      obtain ⟨b0, b1, _⟩ := HBX.out wr kr
      have hfold : Hid ((ts.take (q + 1)).foldl (stepR d k) [] = stepR d k ((ts.take q).foldl (stepR d k) []) ts[q]) := Lib.hid (by
        rw [List.take_succ_eq_append_getElem hkl, List.foldl_append]
        rfl)
      have hlo : ((ts.take q).foldl (stepR d k) []).length = z := by have := ho.1; rw [tvs_length] at this; omega
      obtain ⟨ad, rfl, had, hc⟩ := HH.out.at_ hkl
      have HC := Lib.hid hc
      obtain ⟨c0, c1⟩ := hc _ K0
      have hst : stepR d k ((ts.take q).foldl (stepR d k) []) ts[q] = if d = 1 ∧ ts[q].k = k then (ts.take q).foldl (stepR d k) [] ++ [ts[q].v] else if d = 2 ∧ ((ts.take q).foldl (stepR d k) []).length < 20 then (ts.take q).foldl (stepR d k) [] ++ [ts[q].k, ts[q].v] else (ts.take q).foldl (stepR d k) [] := rfl
      rw [hlo] at hst
      rw [hst] at hfold
      have hz2000 : z ≤ 2000 := by omega
      have HZ := Lib.hid hz
      clear hc hst hlo hz
      generalize (ts.take q).foldl (stepR d k) [] = acc at *
      generalize ts[q].k = x at *
      generalize ts[q].v = y at *
      by_cases h1 : d = 1
      · subst h1
        by_cases hxk : x = k
        · have hq1 : (x.toList == k.toList) = true := by rw [hxk]; simp
          have hf : Hid ((ts.take (q + 1)).foldl (stepR 1 k) [] = acc ++ [y]) := Lib.hid (by rw [hfold.out, if_pos ⟨rfl, hxk⟩])
          clear hfold hxk
          go_wp2_with fail
          go_quiet (fail)
          have kq : Below wr.heap.size wr (wr.drewN nq) := kp_drewN wr nq
          have hoq : (wr.drewN nq).ownsRow (w.heap.size + 1) 9 1 (.slice B z e) z (tvs acc) := own_below_s ho kq (Nat.le_refl _)
          have KQ := kp_trans K0 kq
          have krq := kp_trans kr kq
          generalize wr.drewN nq = wq at *
          obtain ⟨d0, d1⟩ := HC.out _ KQ
          obtain ⟨g0, g1, _⟩ := HBX.out wq krq
          have HO := Lib.hid (hoq.alloc (.cells #[.string y] 9))
          have HSRC : Hid (Rd (wq.alloc (.cells #[.string y] 9)) (wq.heap.size + 1) (some ⟨wq.heap.size, 0, none⟩) [.string y]) := Lib.hid (Rd.new wq 9 [.string y])
          have HSW := Lib.hid (show w.heap.size + 1 ≤ (wq.alloc (.cells #[.string y] 9)).heap.size by have := krq.size; simp at this ⊢; omega)
          clear ho hoq c0 c1 b0 b1 kr kq K0
          go_wp2_with (at_builtin; refine wpList_append_rd rfl _ _ _ rfl (w.heap.size + 1) 9 i0 _ 16 Tryd.underlying35 hi hz0 hz1 hz2 rfl _ z _ rfl HO.out _ _ _ _ [.string y] rfl rfl HSRC.out (by simp [Value.oneCell']) (by unfold maxLen; omega) (by omega) HSW.out ?_; intro v3 w3 hown3 hg3; obtain ⟨A3, c3, rfl, _, _⟩ := own_form hown3; have k3 := (kp_alloc krq (.cells #[.string y] 9)).trans ((below_own_s HO.out hg3 HSW.out).mono (by simp)); obtain ⟨e0, e1, _⟩ := HBX.out w3 k3)
          go_roundw
          case rel =>
            refine ⟨q + 1, z + 1, A3, c3, by omega, by have := HZ.out; omega, by go_num, rfl, ?_, k3⟩
            rw [hf.out, tvs_append]
            exact hown3
          case measure => simp [intOf]; omega
        · have hq1 : (x.toList == k.toList) = false := by
            simp only [beq_eq_false_iff_ne, ne_eq]
            exact fun h => hxk (bytes_ext h)
          have hf : Hid ((ts.take (q + 1)).foldl (stepR 1 k) [] = acc) := Lib.hid (by rw [hfold.out, if_neg (fun h => hxk h.2), if_neg (by omega)])
          clear hfold hxk
          go_wp2_with fail
          go_quiet (fail)
          have kq : Below wr.heap.size wr (wr.drewN nq) := kp_drewN wr nq
          have hoq : Hid ((wr.drewN nq).ownsRow (w.heap.size + 1) 9 1 (.slice B z e) z (tvs acc)) := Lib.hid (own_below_s ho kq (Nat.le_refl _))
          have krq := kp_trans kr kq
          generalize wr.drewN nq = wq at *
          obtain ⟨g0, g1, _⟩ := HBX.out wq krq
          clear ho c0 c1 b0 b1 kr kq K0
          go_wp2_with fail
          go_roundw
          case rel => exact ⟨q + 1, z, B, e, by omega, by have := HZ.out; omega, by go_num, rfl, by rw [hf.out]; exact hoq.out, krq⟩
          case measure => simp [intOf]; omega
      · have n1 : (d == 1) = false := by simpa using h1
        by_cases h2 : d = 2 ∧ z < 20
        · obtain ⟨rfl, hz20⟩ := h2
          have hz20i : (z : Int) < 20 := by omega
          have hf : Hid ((ts.take (q + 1)).foldl (stepR 2 k) [] = acc ++ [x, y]) := Lib.hid (by rw [hfold.out, if_neg (by omega), if_pos ⟨rfl, hz20⟩])
          clear hfold h1
          go_wp2_with fail
          go_quiet (fail)
          have kq : Below wr.heap.size wr (wr.drewN nq) := kp_drewN wr nq
          have hoq : (wr.drewN nq).ownsRow (w.heap.size + 1) 9 1 (.slice B z e) z (tvs acc) := own_below_s ho kq (Nat.le_refl _)
          have KQ := kp_trans K0 kq
          have krq := kp_trans kr kq
          generalize wr.drewN nq = wq at *
          obtain ⟨d0, d1⟩ := HC.out _ KQ
          obtain ⟨g0, g1, _⟩ := HBX.out wq krq
          have HOQ := Lib.hid hoq
          have hql : (q : Int) < (n : Int) := by omega
          clear ho hoq c0 c1 b0 b1 kr kq K0
          have HO := Lib.hid (HOQ.out.drew.alloc (.cells #[.string x, .string y] 9))
          have HSRC : Hid (Rd (wq.drew.alloc (.cells #[.string x, .string y] 9)) (wq.heap.size + 1) (some ⟨wq.heap.size, 0, none⟩) [.string x, .string y]) := Lib.hid (Rd.new wq.drew 9 [.string x, .string y])
          have HSW := Lib.hid (show w.heap.size + 1 ≤ (wq.drew.alloc (.cells #[.string x, .string y] 9)).heap.size by have := krq.size; simp at this ⊢; omega)
          clear HOQ
          go_wp2_with fail
          go_region_law (refine step_append_rd rfl (.tmp 43) (.tmp 54) _ rfl (w.heap.size + 1) 9 i0 _ 16 Tryd.underlying35 hi hz0 hz1 hz2 rfl _ z _ rfl HO.out _ _ _ _ [.string x, .string y] rfl rfl HSRC.out (by simp [Value.oneCell']) (by unfold maxLen; omega) (by omega) HSW.out ?_; intro v3 w3 hown3 hg3; obtain ⟨A3, c3, rfl, _, _⟩ := own_form hown3; have k3 := (kp_alloc (krq.drew) (.cells #[.string x, .string y] 9)).trans ((below_own_s HO.out hg3 HSW.out).mono (by simp)); obtain ⟨e0, e1, _⟩ := HBX.out w3 k3)
          all_goals
            go_wp2_with fail
            go_roundw
            case rel =>
              refine ⟨q + 1, z + 2, A3, c3, by omega, by have := HZ.out; omega, by go_num, rfl, ?_, k3⟩
              rw [hf.out, tvs_append]
              exact hown3
            case measure => simp [intOf]; omega
        · have hf : Hid ((ts.take (q + 1)).foldl (stepR d k) [] = acc) := Lib.hid (by rw [hfold.out, if_neg (fun h => h1 h.1), if_neg h2])
          have hg : (d == 2) = false ∨ ((d == 2) = true ∧ ¬ (z : Int) < 20) := by
            by_cases hd : d = 2
            · exact .inr ⟨by simpa using hd, by have := fun h => h2 ⟨hd, h⟩; omega⟩
            · exact .inl (by simpa using hd)
          clear hfold h1 h2
          rcases hg with hg | ⟨hg, hg2⟩
          all_goals
            go_wp2_with fail
            go_quiet (fail)
            have kq : Below wr.heap.size wr (wr.drewN nq) := kp_drewN wr nq
            have hoq : Hid ((wr.drewN nq).ownsRow (w.heap.size + 1) 9 1 (.slice B z e) z (tvs acc)) := Lib.hid (own_below_s ho kq (Nat.le_refl _))
            have krq := kp_trans kr kq
            generalize wr.drewN nq = wq at *
            obtain ⟨g0, g1, _⟩ := HBX.out wq krq
            clear ho c0 c1 b0 b1 kr kq K0
            go_wp2_with fail
            go_roundw
            case rel => exact ⟨q + 1, z, B, e, by omega, by have := HZ.out; omega, by go_num, rfl, by rw [hf.out]; exact hoq.out, krq⟩
            case measure => simp [intOf]; omega
    · obtain rfl : q = n := by omega
      rw [List.take_of_length_le (by rw [HL.out]; exact Nat.le_refl _), HF.out] at ho
      go_wp2_with fail
      go_ret
      exact ⟨B, z, e, rfl, XR.of_own ho, by omega, K0⟩
end

/- The document's layer 6: what is written to a table: contract. -/
section
open Go.RowKit
set_option maxRecDepth 100000

set_option maxHeartbeats 8000000 in
theorem rwrites_ok (d : Int) (k v : ByteArray) (A : Option Addr) (n c : Nat) (ts : List Kv) (w : World) (h : KR w A n ts) (hs : Srt ts) (hn : n ≤ 900) :
    Calls Tryd.prog 9 #[.agg #[.int .i64 d, .string k, .string v], .slice A n c] w fun e w' => ∃ A' n' c', e = .returned (.tuple #[.slice A' n' c', .int .i64 (writesF d k v ts).2]) ∧ KR w' A' n' (writesF d k v ts).1 ∧ n' ≤ 2000 ∧ Below w.heap.size w w' := by
  obtain ⟨i0, hi, hz0, hz1, hz2⟩ := info_parts kvinfoR
  have kw := kp_new w (.cells #[.int .i64 d, .string k, .string v] 32)
  have hF := fold_writes d k v hs
  generalize writesF d k v ts = W at *
  have HF := Lib.hid hF
  clear hF
  have HL := Lib.hid h.len
  have HH := Lib.hid h
  have hbx : ∀ u, Below (w.alloc (.cells #[.int .i64 d, .string k, .string v] 32)).heap.size (w.alloc (.cells #[.int .i64 d, .string k, .string v] 32)) u → _ := fun u hu => box3 hu
  have HBX := Lib.hid hbx
  have h0 := kp_new (w.alloc (.cells #[.int .i64 d, .string k, .string v] 32)) (.cells #[] 46)
  have HK0 := Lib.hid h0
  have hown0 : Hid (OK 46 ((w.alloc (.cells #[.int .i64 d, .string k, .string v] 32)).alloc (.cells #[] 46)) (w.heap.size + 1) (some ⟨w.heap.size + 1, 0, none⟩) 0 0 []) := Lib.hid (by
    have := OK.empty 46 (w.alloc (.cells #[.int .i64 d, .string k, .string v] 32))
    simpa using this)
  clear hbx h hs h0
  go_enter Tryd.func9, Tryd.ntmps9
  go_wp2_with fail
  go_loopw [6, 7, 8, 9] (fun o m f i wr => ∃ (q z : Nat) (B : Option Addr) (e : Nat) (acc : List Kv) (nn : Int) (dn : Bool), q ≤ n ∧ z ≤ 2 * q ∧ i = .int .i64 q ∧ o = .slice B z e ∧ m = .int .i64 nn ∧ f = .bool dn ∧ Hid ((ts.take q).foldl (stepW d k v) ⟨[], 0, false⟩ = ⟨acc, nn, dn⟩) ∧ Hid (OK 46 wr (w.heap.size + 1) B z e acc) ∧ Below (w.alloc (.cells #[.int .i64 d, .string k, .string v] 32)).heap.size (w.alloc (.cells #[.int .i64 d, .string k, .string v] 32)) wr) (fun _ _ _ i _ => n - (intOf i).toNat)
  case atStart => exact ⟨0, 0, _, 0, [], 0, false, Nat.zero_le _, Nat.zero_le _, rfl, rfl, rfl, rfl, Lib.hid rfl, hown0, HK0.out⟩
  case round =>
    obtain ⟨q, z, B, e, acc, nn, dn, hq, hz, rfl, rfl, rfl, rfl, hst, ho', kr⟩ := hrel
    have ho := ho'.out
    clear ho'
    have K0 := kp_trans kw kr
    have hsw : w.heap.size + 1 ≤ wr.heap.size := by have := kr.size; simpa using this
    by_cases hlt : q < n
    · have hkl : q < ts.length := by rw [HL.out]; exact hlt
      obtain ⟨b0, b1, b2⟩ := HBX.out wr kr
      have hfold : Hid ((ts.take (q + 1)).foldl (stepW d k v) ⟨[], 0, false⟩ = stepW d k v ⟨acc, nn, dn⟩ ts[q]) := Lib.hid (by
        rw [List.take_succ_eq_append_getElem hkl, List.foldl_append, hst.out]
        rfl)
      obtain ⟨ad, rfl, had, hc⟩ := HH.out.at_ hkl
      have HC := Lib.hid hc
      obtain ⟨c0, c1⟩ := hc _ K0
      have hz2000 : z ≤ 2000 := by omega
      have HZ := Lib.hid hz
      have eta : ts[q] = ⟨ts[q].k, ts[q].v⟩ := rfl
      rw [eta] at hfold
      clear hc hz hst eta
      generalize ts[q].k = x at *
      generalize ts[q].v = y at *
      by_cases hxk : x = k
      · subst hxk
        have hq1 : (x.toList == x.toList) = true := by simp
        have hq2 : Op.bytesLess x.toList x.toList = false := ltB_irrefl x
        by_cases h3 : d = 3
        · subst h3
          cases dn
          all_goals
            have hf : Hid ((ts.take (q + 1)).foldl (stepW 3 x v) ⟨[], 0, false⟩ = ⟨acc ++ [⟨x, v⟩], 1, true⟩) := Lib.hid (by rw [hfold.out, stepW]; rw [if_neg (by rw [ltB_irrefl]; simp), if_neg (by simp)]; simp)
            clear hfold
            go_wp2_with fail
            go_quiet (fail)
            have kq : Below wr.heap.size wr (wr.drewN nq) := kp_drewN wr nq
            have hoq_wq := ho.next kq
            have K_wq := kp_trans K0 kq
            have kr_wq := kp_trans kr kq
            generalize wr.drewN nq = wq at *
            obtain ⟨d0_wq, d1_wq⟩ := HC.out _ K_wq
            obtain ⟨g0_wq, g1_wq, g2_wq⟩ := HBX.out wq kr_wq
            clear kq
            go_wp2_with fail
            go_quiet (fail)
            have kq : Below wq.heap.size wq (wq.drewN nq) := kp_drewN wq nq
            have hoq_wp := hoq_wq.next kq
            have K_wp := kp_trans K_wq kq
            have kr_wp := kp_trans kr_wq kq
            generalize wq.drewN nq = wp at *
            obtain ⟨d0_wp, d1_wp⟩ := HC.out _ K_wp
            obtain ⟨g0_wp, g1_wp, g2_wp⟩ := HBX.out wp kr_wp
            clear kq
            have HO_a := Lib.hid (hoq_wp.own.alloc (.cells #[.string x, .string v] 46))
            have HSRC_a : Hid (Rd (wp.alloc (.cells #[.string x, .string v] 46)) (wp.heap.size + 1) (some ⟨wp.heap.size, 0, none⟩) [.string x, .string v]) := Lib.hid (Rd.new wp 46 [.string x, .string v])
            have HSW_a := Lib.hid (show w.heap.size + 1 ≤ (wp.alloc (.cells #[.string x, .string v] 46)).heap.size by have := kr_wp.size; simp at this ⊢; omega)
            have HKR_a := Lib.hid (kp_alloc kr_wp (.cells #[.string x, .string v] 46))
            clear hoq_wp
            go_wp2_with (at_builtin; refine wpList_append_rds rfl _ _ _ rfl (w.heap.size + 1) 46 i0 _ 2 32 Tryd.underlying29 hi hz0 hz1 hz2 rfl (by omega) _ (z) _ rfl HO_a.out _ _ _ _ [.string x, .string v] rfl rfl HSRC_a.out (by simp [Value.oneCell']) (by unfold maxLen; omega) (by omega) HSW_a.out ?_; intro v3 w3 hown3 hg3; obtain ⟨A_a, c_a, rfl, ho_a⟩ := OK.push hown3; have kr_w3 := HKR_a.out.trans ((below_own_s HO_a.out hg3 HSW_a.out).mono (by simp)); have K_w3 := kp_trans kw kr_w3; obtain ⟨e0, e1, e2⟩ := HBX.out w3 kr_w3; obtain ⟨f0, f1⟩ := HC.out _ K_w3; clear hown3 hg3)
            go_roundw
            case rel => exact ⟨q + 1, z + 1, A_a, c_a, acc ++ [⟨x, v⟩], 1, true, by omega, by have := HZ.out; omega, by go_num, rfl, rfl, rfl, hf, Lib.hid ho_a, kr_w3⟩
            case measure => simp [intOf]; omega
        · have n3 : (d == 3) = false := by simpa using h3
          by_cases hl3 : d < 3
          · have hl5 : ¬ 5 < d := by omega
            have hf : Hid ((ts.take (q + 1)).foldl (stepW d x v) ⟨[], 0, false⟩ = ⟨acc ++ [⟨x, y⟩], nn, dn⟩) := Lib.hid (by rw [hfold.out, stepW]; rw [if_neg (by omega), if_pos (.inr (.inl hl3))])
            clear hfold h3
            go_wp2_with fail
            go_quiet (fail)
            have kq : Below wr.heap.size wr (wr.drewN nq) := kp_drewN wr nq
            have hoq_wq := ho.next kq
            have K_wq := kp_trans K0 kq
            have kr_wq := kp_trans kr kq
            generalize wr.drewN nq = wq at *
            obtain ⟨d0_wq, d1_wq⟩ := HC.out _ K_wq
            obtain ⟨g0_wq, g1_wq, g2_wq⟩ := HBX.out wq kr_wq
            clear kq
            go_wp2_with fail
            go_quiet (fail)
            have kq : Below wq.heap.size wq (wq.drewN nq) := kp_drewN wq nq
            have hoq_wp := hoq_wq.next kq
            have K_wp := kp_trans K_wq kq
            have kr_wp := kp_trans kr_wq kq
            generalize wq.drewN nq = wp at *
            obtain ⟨d0_wp, d1_wp⟩ := HC.out _ K_wp
            obtain ⟨g0_wp, g1_wp, g2_wp⟩ := HBX.out wp kr_wp
            clear kq
            have HO_a := Lib.hid (hoq_wp.own.alloc (.cells #[.string x, .string y] 46))
            have HSRC_a : Hid (Rd (wp.alloc (.cells #[.string x, .string y] 46)) (wp.heap.size + 1) (some ⟨wp.heap.size, 0, none⟩) [.string x, .string y]) := Lib.hid (Rd.new wp 46 [.string x, .string y])
            have HSW_a := Lib.hid (show w.heap.size + 1 ≤ (wp.alloc (.cells #[.string x, .string y] 46)).heap.size by have := kr_wp.size; simp at this ⊢; omega)
            have HKR_a := Lib.hid (kp_alloc kr_wp (.cells #[.string x, .string y] 46))
            clear hoq_wp
            go_wp2_with (at_builtin; refine wpList_append_rds rfl _ _ _ rfl (w.heap.size + 1) 46 i0 _ 2 32 Tryd.underlying29 hi hz0 hz1 hz2 rfl (by omega) _ (z) _ rfl HO_a.out _ _ _ _ [.string x, .string y] rfl rfl HSRC_a.out (by simp [Value.oneCell']) (by unfold maxLen; omega) (by omega) HSW_a.out ?_; intro v3 w3 hown3 hg3; obtain ⟨A_a, c_a, rfl, ho_a⟩ := OK.push hown3; have kr_w3 := HKR_a.out.trans ((below_own_s HO_a.out hg3 HSW_a.out).mono (by simp)); have K_w3 := kp_trans kw kr_w3; obtain ⟨e0, e1, e2⟩ := HBX.out w3 kr_w3; obtain ⟨f0, f1⟩ := HC.out _ K_w3; clear hown3 hg3)
            go_roundw
            case rel => exact ⟨q + 1, z + 1, A_a, c_a, acc ++ [⟨x, y⟩], nn, dn, by omega, by have := HZ.out; omega, by go_num, rfl, rfl, rfl, hf, Lib.hid ho_a, kr_w3⟩
            case measure => simp [intOf]; omega
          by_cases hg5 : 5 < d
          · have hl3' : ¬ d < 3 := hl3
            have hf : Hid ((ts.take (q + 1)).foldl (stepW d x v) ⟨[], 0, false⟩ = ⟨acc ++ [⟨x, y⟩], nn, dn⟩) := Lib.hid (by rw [hfold.out, stepW]; rw [if_neg (by omega), if_pos (.inr (.inr hg5))])
            clear hfold h3
            go_wp2_with fail
            go_quiet (fail)
            have kq : Below wr.heap.size wr (wr.drewN nq) := kp_drewN wr nq
            have hoq_wq := ho.next kq
            have K_wq := kp_trans K0 kq
            have kr_wq := kp_trans kr kq
            generalize wr.drewN nq = wq at *
            obtain ⟨d0_wq, d1_wq⟩ := HC.out _ K_wq
            obtain ⟨g0_wq, g1_wq, g2_wq⟩ := HBX.out wq kr_wq
            clear kq
            go_wp2_with fail
            go_quiet (fail)
            have kq : Below wq.heap.size wq (wq.drewN nq) := kp_drewN wq nq
            have hoq_wp := hoq_wq.next kq
            have K_wp := kp_trans K_wq kq
            have kr_wp := kp_trans kr_wq kq
            generalize wq.drewN nq = wp at *
            obtain ⟨d0_wp, d1_wp⟩ := HC.out _ K_wp
            obtain ⟨g0_wp, g1_wp, g2_wp⟩ := HBX.out wp kr_wp
            clear kq
            have HO_a := Lib.hid (hoq_wp.own.alloc (.cells #[.string x, .string y] 46))
            have HSRC_a : Hid (Rd (wp.alloc (.cells #[.string x, .string y] 46)) (wp.heap.size + 1) (some ⟨wp.heap.size, 0, none⟩) [.string x, .string y]) := Lib.hid (Rd.new wp 46 [.string x, .string y])
            have HSW_a := Lib.hid (show w.heap.size + 1 ≤ (wp.alloc (.cells #[.string x, .string y] 46)).heap.size by have := kr_wp.size; simp at this ⊢; omega)
            have HKR_a := Lib.hid (kp_alloc kr_wp (.cells #[.string x, .string y] 46))
            clear hoq_wp
            go_wp2_with (at_builtin; refine wpList_append_rds rfl _ _ _ rfl (w.heap.size + 1) 46 i0 _ 2 32 Tryd.underlying29 hi hz0 hz1 hz2 rfl (by omega) _ (z) _ rfl HO_a.out _ _ _ _ [.string x, .string y] rfl rfl HSRC_a.out (by simp [Value.oneCell']) (by unfold maxLen; omega) (by omega) HSW_a.out ?_; intro v3 w3 hown3 hg3; obtain ⟨A_a, c_a, rfl, ho_a⟩ := OK.push hown3; have kr_w3 := HKR_a.out.trans ((below_own_s HO_a.out hg3 HSW_a.out).mono (by simp)); have K_w3 := kp_trans kw kr_w3; obtain ⟨e0, e1, e2⟩ := HBX.out w3 kr_w3; obtain ⟨f0, f1⟩ := HC.out _ K_w3; clear hown3 hg3)
            go_roundw
            case rel => exact ⟨q + 1, z + 1, A_a, c_a, acc ++ [⟨x, y⟩], nn, dn, by omega, by have := HZ.out; omega, by go_num, rfl, rfl, rfl, hf, Lib.hid ho_a, kr_w3⟩
            case measure => simp [intOf]; omega
          by_cases h4 : d = 4
          · subst h4
            have hf : Hid ((ts.take (q + 1)).foldl (stepW 4 x v) ⟨[], 0, false⟩ = ⟨acc ++ [⟨x, v⟩], 1, true⟩) := Lib.hid (by rw [hfold.out, stepW]; rw [if_neg (by simp), if_neg (by simp)]; simp)
            clear hfold h3 n3
            go_wp2_with fail
            go_quiet (fail)
            have kq : Below wr.heap.size wr (wr.drewN nq) := kp_drewN wr nq
            have hoq_wq := ho.next kq
            have K_wq := kp_trans K0 kq
            have kr_wq := kp_trans kr kq
            generalize wr.drewN nq = wq at *
            obtain ⟨d0_wq, d1_wq⟩ := HC.out _ K_wq
            obtain ⟨g0_wq, g1_wq, g2_wq⟩ := HBX.out wq kr_wq
            clear kq
            go_wp2_with fail
            go_quiet (fail)
            have kq : Below wq.heap.size wq (wq.drewN nq) := kp_drewN wq nq
            have hoq_wp := hoq_wq.next kq
            have K_wp := kp_trans K_wq kq
            have kr_wp := kp_trans kr_wq kq
            generalize wq.drewN nq = wp at *
            obtain ⟨d0_wp, d1_wp⟩ := HC.out _ K_wp
            obtain ⟨g0_wp, g1_wp, g2_wp⟩ := HBX.out wp kr_wp
            clear kq
            have HO_a := Lib.hid (hoq_wp.own.alloc (.cells #[.string x, .string v] 46))
            have HSRC_a : Hid (Rd (wp.alloc (.cells #[.string x, .string v] 46)) (wp.heap.size + 1) (some ⟨wp.heap.size, 0, none⟩) [.string x, .string v]) := Lib.hid (Rd.new wp 46 [.string x, .string v])
            have HSW_a := Lib.hid (show w.heap.size + 1 ≤ (wp.alloc (.cells #[.string x, .string v] 46)).heap.size by have := kr_wp.size; simp at this ⊢; omega)
            have HKR_a := Lib.hid (kp_alloc kr_wp (.cells #[.string x, .string v] 46))
            clear hoq_wp
            go_wp2_with (at_builtin; refine wpList_append_rds rfl _ _ _ rfl (w.heap.size + 1) 46 i0 _ 2 32 Tryd.underlying29 hi hz0 hz1 hz2 rfl (by omega) _ (z) _ rfl HO_a.out _ _ _ _ [.string x, .string v] rfl rfl HSRC_a.out (by simp [Value.oneCell']) (by unfold maxLen; omega) (by omega) HSW_a.out ?_; intro v3 w3 hown3 hg3; obtain ⟨A_a, c_a, rfl, ho_a⟩ := OK.push hown3; have kr_w3 := HKR_a.out.trans ((below_own_s HO_a.out hg3 HSW_a.out).mono (by simp)); have K_w3 := kp_trans kw kr_w3; obtain ⟨e0, e1, e2⟩ := HBX.out w3 kr_w3; obtain ⟨f0, f1⟩ := HC.out _ K_w3; clear hown3 hg3)
            go_roundw
            case rel => exact ⟨q + 1, z + 1, A_a, c_a, acc ++ [⟨x, v⟩], 1, true, by omega, by have := HZ.out; omega, by go_num, rfl, rfl, rfl, hf, Lib.hid ho_a, kr_w3⟩
            case measure => simp [intOf]; omega
          · obtain rfl : d = 5 := by omega
            have hf : Hid ((ts.take (q + 1)).foldl (stepW 5 x v) ⟨[], 0, false⟩ = ⟨acc, 1, true⟩) := Lib.hid (by rw [hfold.out, stepW]; rw [if_neg (by simp), if_neg (by simp)]; simp)
            clear hfold h3 n3 h4
            go_wp2_with fail
            go_quiet (fail)
            have kq : Below wr.heap.size wr (wr.drewN nq) := kp_drewN wr nq
            have hoq_wq := ho.next kq
            have K_wq := kp_trans K0 kq
            have kr_wq := kp_trans kr kq
            generalize wr.drewN nq = wq at *
            obtain ⟨d0_wq, d1_wq⟩ := HC.out _ K_wq
            obtain ⟨g0_wq, g1_wq, g2_wq⟩ := HBX.out wq kr_wq
            clear kq
            go_wp2_with fail
            go_quiet (fail)
            have kq : Below wq.heap.size wq (wq.drewN nq) := kp_drewN wq nq
            have hoq_wp := hoq_wq.next kq
            have K_wp := kp_trans K_wq kq
            have kr_wp := kp_trans kr_wq kq
            generalize wq.drewN nq = wp at *
            obtain ⟨d0_wp, d1_wp⟩ := HC.out _ K_wp
            obtain ⟨g0_wp, g1_wp, g2_wp⟩ := HBX.out wp kr_wp
            clear kq
            go_wp2_with fail
            go_roundw
            case rel => exact ⟨q + 1, z, B, e, acc, 1, true, by omega, by have := HZ.out; omega, by go_num, rfl, rfl, rfl, hf, Lib.hid hoq_wp, kr_wp⟩
            case measure => simp [intOf]; omega
      · have hq1 : (x.toList == k.toList) = false := by
          simp only [beq_eq_false_iff_ne, ne_eq]
          exact fun h => hxk (bytes_ext h)
        by_cases h3 : d = 3
        · subst h3
          cases dn with
          | true =>
            have hf : Hid ((ts.take (q + 1)).foldl (stepW 3 k v) ⟨[], 0, false⟩ = ⟨acc ++ [⟨x, y⟩], nn, true⟩) := Lib.hid (by rw [hfold.out, stepW]; rw [if_neg (by simp), if_pos (.inl hxk)])
            clear hfold hxk
            go_wp2_with fail
            go_quiet (fail)
            have kq : Below wr.heap.size wr (wr.drewN nq) := kp_drewN wr nq
            have hoq_wq := ho.next kq
            have K_wq := kp_trans K0 kq
            have kr_wq := kp_trans kr kq
            generalize wr.drewN nq = wq at *
            obtain ⟨d0_wq, d1_wq⟩ := HC.out _ K_wq
            obtain ⟨g0_wq, g1_wq, g2_wq⟩ := HBX.out wq kr_wq
            clear kq
            go_wp2_with fail
            go_quiet (fail)
            have kq : Below wq.heap.size wq (wq.drewN nq) := kp_drewN wq nq
            have hoq_wp := hoq_wq.next kq
            have K_wp := kp_trans K_wq kq
            have kr_wp := kp_trans kr_wq kq
            generalize wq.drewN nq = wp at *
            obtain ⟨d0_wp, d1_wp⟩ := HC.out _ K_wp
            obtain ⟨g0_wp, g1_wp, g2_wp⟩ := HBX.out wp kr_wp
            clear kq
            have HO_a := Lib.hid (hoq_wp.own.alloc (.cells #[.string x, .string y] 46))
            have HSRC_a : Hid (Rd (wp.alloc (.cells #[.string x, .string y] 46)) (wp.heap.size + 1) (some ⟨wp.heap.size, 0, none⟩) [.string x, .string y]) := Lib.hid (Rd.new wp 46 [.string x, .string y])
            have HSW_a := Lib.hid (show w.heap.size + 1 ≤ (wp.alloc (.cells #[.string x, .string y] 46)).heap.size by have := kr_wp.size; simp at this ⊢; omega)
            have HKR_a := Lib.hid (kp_alloc kr_wp (.cells #[.string x, .string y] 46))
            clear hoq_wp
            go_wp2_with (at_builtin; refine wpList_append_rds rfl _ _ _ rfl (w.heap.size + 1) 46 i0 _ 2 32 Tryd.underlying29 hi hz0 hz1 hz2 rfl (by omega) _ (z) _ rfl HO_a.out _ _ _ _ [.string x, .string y] rfl rfl HSRC_a.out (by simp [Value.oneCell']) (by unfold maxLen; omega) (by omega) HSW_a.out ?_; intro v3 w3 hown3 hg3; obtain ⟨A_a, c_a, rfl, ho_a⟩ := OK.push hown3; have kr_w3 := HKR_a.out.trans ((below_own_s HO_a.out hg3 HSW_a.out).mono (by simp)); have K_w3 := kp_trans kw kr_w3; obtain ⟨e0, e1, e2⟩ := HBX.out w3 kr_w3; obtain ⟨f0, f1⟩ := HC.out _ K_w3; clear hown3 hg3)
            go_roundw
            case rel => exact ⟨q + 1, z + 1, A_a, c_a, acc ++ [⟨x, y⟩], nn, true, by omega, by have := HZ.out; omega, by go_num, rfl, rfl, rfl, hf, Lib.hid ho_a, kr_w3⟩
            case measure => simp [intOf]; omega
          | false =>
            cases hlt2 : ltB x k with
            | true =>
              have hq2 : Op.bytesLess x.toList k.toList = true := hlt2
              have hf : Hid ((ts.take (q + 1)).foldl (stepW 3 k v) ⟨[], 0, false⟩ = ⟨acc ++ [⟨x, y⟩], nn, false⟩) := Lib.hid (by rw [hfold.out, stepW]; rw [if_neg (by rw [ltB_asymm hlt2]; simp), if_pos (.inl hxk)])
              clear hfold hxk hlt2
              go_wp2_with fail
              go_quiet (fail)
              have kq : Below wr.heap.size wr (wr.drewN nq) := kp_drewN wr nq
              have hoq_wq := ho.next kq
              have K_wq := kp_trans K0 kq
              have kr_wq := kp_trans kr kq
              generalize wr.drewN nq = wq at *
              obtain ⟨d0_wq, d1_wq⟩ := HC.out _ K_wq
              obtain ⟨g0_wq, g1_wq, g2_wq⟩ := HBX.out wq kr_wq
              clear kq
              go_wp2_with fail
              go_quiet (fail)
              have kq : Below wq.heap.size wq (wq.drewN nq) := kp_drewN wq nq
              have hoq_wp := hoq_wq.next kq
              have K_wp := kp_trans K_wq kq
              have kr_wp := kp_trans kr_wq kq
              generalize wq.drewN nq = wp at *
              obtain ⟨d0_wp, d1_wp⟩ := HC.out _ K_wp
              obtain ⟨g0_wp, g1_wp, g2_wp⟩ := HBX.out wp kr_wp
              clear kq
              have HO_a := Lib.hid (hoq_wp.own.alloc (.cells #[.string x, .string y] 46))
              have HSRC_a : Hid (Rd (wp.alloc (.cells #[.string x, .string y] 46)) (wp.heap.size + 1) (some ⟨wp.heap.size, 0, none⟩) [.string x, .string y]) := Lib.hid (Rd.new wp 46 [.string x, .string y])
              have HSW_a := Lib.hid (show w.heap.size + 1 ≤ (wp.alloc (.cells #[.string x, .string y] 46)).heap.size by have := kr_wp.size; simp at this ⊢; omega)
              have HKR_a := Lib.hid (kp_alloc kr_wp (.cells #[.string x, .string y] 46))
              clear hoq_wp
              go_wp2_with (at_builtin; refine wpList_append_rds rfl _ _ _ rfl (w.heap.size + 1) 46 i0 _ 2 32 Tryd.underlying29 hi hz0 hz1 hz2 rfl (by omega) _ (z) _ rfl HO_a.out _ _ _ _ [.string x, .string y] rfl rfl HSRC_a.out (by simp [Value.oneCell']) (by unfold maxLen; omega) (by omega) HSW_a.out ?_; intro v3 w3 hown3 hg3; obtain ⟨A_a, c_a, rfl, ho_a⟩ := OK.push hown3; have kr_w3 := HKR_a.out.trans ((below_own_s HO_a.out hg3 HSW_a.out).mono (by simp)); have K_w3 := kp_trans kw kr_w3; obtain ⟨e0, e1, e2⟩ := HBX.out w3 kr_w3; obtain ⟨f0, f1⟩ := HC.out _ K_w3; clear hown3 hg3)
              go_roundw
              case rel => exact ⟨q + 1, z + 1, A_a, c_a, acc ++ [⟨x, y⟩], nn, false, by omega, by have := HZ.out; omega, by go_num, rfl, rfl, rfl, hf, Lib.hid ho_a, kr_w3⟩
              case measure => simp [intOf]; omega
            | false =>
              have hq2 : Op.bytesLess x.toList k.toList = false := hlt2
              have hgt : ltB k x = true := by
                cases h : ltB k x with
                | true => rfl
                | false => exact absurd (ltB_total hlt2 h) hxk
              have hf : Hid ((ts.take (q + 1)).foldl (stepW 3 k v) ⟨[], 0, false⟩ = ⟨acc ++ [⟨k, v⟩] ++ [⟨x, y⟩], nn, true⟩) := Lib.hid (by rw [hfold.out, stepW]; rw [if_pos ⟨rfl, rfl, hgt⟩])
              clear hfold hxk hlt2 hgt
              go_wp2_with fail
              go_quiet (fail)
              have kq : Below wr.heap.size wr (wr.drewN nq) := kp_drewN wr nq
              have hoq_wq := ho.next kq
              have K_wq := kp_trans K0 kq
              have kr_wq := kp_trans kr kq
              generalize wr.drewN nq = wq at *
              obtain ⟨d0_wq, d1_wq⟩ := HC.out _ K_wq
              obtain ⟨g0_wq, g1_wq, g2_wq⟩ := HBX.out wq kr_wq
              clear kq
              have HO_a := Lib.hid (hoq_wq.own.alloc (.cells #[.string k, .string v] 46))
              have HSRC_a : Hid (Rd (wq.alloc (.cells #[.string k, .string v] 46)) (wq.heap.size + 1) (some ⟨wq.heap.size, 0, none⟩) [.string k, .string v]) := Lib.hid (Rd.new wq 46 [.string k, .string v])
              have HSW_a := Lib.hid (show w.heap.size + 1 ≤ (wq.alloc (.cells #[.string k, .string v] 46)).heap.size by have := kr_wq.size; simp at this ⊢; omega)
              have HKR_a := Lib.hid (kp_alloc kr_wq (.cells #[.string k, .string v] 46))
              clear hoq_wq
              go_wp2_with (at_builtin; refine wpList_append_rds rfl _ _ _ rfl (w.heap.size + 1) 46 i0 _ 2 32 Tryd.underlying29 hi hz0 hz1 hz2 rfl (by omega) _ (z) _ rfl HO_a.out _ _ _ _ [.string k, .string v] rfl rfl HSRC_a.out (by simp [Value.oneCell']) (by unfold maxLen; omega) (by omega) HSW_a.out ?_; intro v3 w3 hown3 hg3; obtain ⟨A_a, c_a, rfl, ho_a⟩ := OK.push hown3; have kr_w3 := HKR_a.out.trans ((below_own_s HO_a.out hg3 HSW_a.out).mono (by simp)); have K_w3 := kp_trans kw kr_w3; obtain ⟨e0, e1, e2⟩ := HBX.out w3 kr_w3; obtain ⟨f0, f1⟩ := HC.out _ K_w3; clear hown3 hg3)
              go_quiet (fail)
              have kq : Below w3.heap.size w3 (w3.drewN nq) := kp_drewN w3 nq
              have hoq_wp := ho_a.next kq
              have K_wp := kp_trans K_w3 kq
              have kr_wp := kp_trans kr_w3 kq
              generalize w3.drewN nq = wp at *
              obtain ⟨d0_wp, d1_wp⟩ := HC.out _ K_wp
              obtain ⟨g0_wp, g1_wp, g2_wp⟩ := HBX.out wp kr_wp
              clear kq
              have HO_b := Lib.hid (hoq_wp.own.alloc (.cells #[.string x, .string y] 46))
              have HSRC_b : Hid (Rd (wp.alloc (.cells #[.string x, .string y] 46)) (wp.heap.size + 1) (some ⟨wp.heap.size, 0, none⟩) [.string x, .string y]) := Lib.hid (Rd.new wp 46 [.string x, .string y])
              have HSW_b := Lib.hid (show w.heap.size + 1 ≤ (wp.alloc (.cells #[.string x, .string y] 46)).heap.size by have := kr_wp.size; simp at this ⊢; omega)
              have HKR_b := Lib.hid (kp_alloc kr_wp (.cells #[.string x, .string y] 46))
              clear hoq_wp
              go_wp2_with (at_builtin; refine wpList_append_rds rfl _ _ _ rfl (w.heap.size + 1) 46 i0 _ 2 32 Tryd.underlying29 hi hz0 hz1 hz2 rfl (by omega) _ (z + 1) _ rfl HO_b.out _ _ _ _ [.string x, .string y] rfl rfl HSRC_b.out (by simp [Value.oneCell']) (by unfold maxLen; omega) (by omega) HSW_b.out ?_; intro v3 w4 hown3 hg3; obtain ⟨A_b, c_b, rfl, ho_b⟩ := OK.push hown3; have kr_w4 := HKR_b.out.trans ((below_own_s HO_b.out hg3 HSW_b.out).mono (by simp)); have K_w4 := kp_trans kw kr_w4; obtain ⟨e0, e1, e2⟩ := HBX.out w4 kr_w4; obtain ⟨f0, f1⟩ := HC.out _ K_w4; clear hown3 hg3)
              go_roundw
              case rel => exact ⟨q + 1, z + 1 + 1, A_b, c_b, acc ++ [⟨k, v⟩] ++ [⟨x, y⟩], nn, true, by omega, by have := HZ.out; omega, by go_num, rfl, rfl, rfl, hf, Lib.hid ho_b, kr_w4⟩
              case measure => simp [intOf]; omega
        · have n3 : (d == 3) = false := by simpa using h3
          have hf : Hid ((ts.take (q + 1)).foldl (stepW d k v) ⟨[], 0, false⟩ = ⟨acc ++ [⟨x, y⟩], nn, dn⟩) := Lib.hid (by rw [hfold.out, stepW]; rw [if_neg (fun h => h3 h.1), if_pos (.inl hxk)])
          clear hfold hxk h3
          go_wp2_with fail
          go_quiet (fail)
          have kq : Below wr.heap.size wr (wr.drewN nq) := kp_drewN wr nq
          have hoq_wq := ho.next kq
          have K_wq := kp_trans K0 kq
          have kr_wq := kp_trans kr kq
          generalize wr.drewN nq = wq at *
          obtain ⟨d0_wq, d1_wq⟩ := HC.out _ K_wq
          obtain ⟨g0_wq, g1_wq, g2_wq⟩ := HBX.out wq kr_wq
          clear kq
          go_wp2_with fail
          go_quiet (fail)
          have kq : Below wq.heap.size wq (wq.drewN nq) := kp_drewN wq nq
          have hoq_wp := hoq_wq.next kq
          have K_wp := kp_trans K_wq kq
          have kr_wp := kp_trans kr_wq kq
          generalize wq.drewN nq = wp at *
          obtain ⟨d0_wp, d1_wp⟩ := HC.out _ K_wp
          obtain ⟨g0_wp, g1_wp, g2_wp⟩ := HBX.out wp kr_wp
          clear kq
          have HO_a := Lib.hid (hoq_wp.own.alloc (.cells #[.string x, .string y] 46))
          have HSRC_a : Hid (Rd (wp.alloc (.cells #[.string x, .string y] 46)) (wp.heap.size + 1) (some ⟨wp.heap.size, 0, none⟩) [.string x, .string y]) := Lib.hid (Rd.new wp 46 [.string x, .string y])
          have HSW_a := Lib.hid (show w.heap.size + 1 ≤ (wp.alloc (.cells #[.string x, .string y] 46)).heap.size by have := kr_wp.size; simp at this ⊢; omega)
          have HKR_a := Lib.hid (kp_alloc kr_wp (.cells #[.string x, .string y] 46))
          clear hoq_wp
          go_wp2_with (at_builtin; refine wpList_append_rds rfl _ _ _ rfl (w.heap.size + 1) 46 i0 _ 2 32 Tryd.underlying29 hi hz0 hz1 hz2 rfl (by omega) _ (z) _ rfl HO_a.out _ _ _ _ [.string x, .string y] rfl rfl HSRC_a.out (by simp [Value.oneCell']) (by unfold maxLen; omega) (by omega) HSW_a.out ?_; intro v3 w3 hown3 hg3; obtain ⟨A_a, c_a, rfl, ho_a⟩ := OK.push hown3; have kr_w3 := HKR_a.out.trans ((below_own_s HO_a.out hg3 HSW_a.out).mono (by simp)); have K_w3 := kp_trans kw kr_w3; obtain ⟨e0, e1, e2⟩ := HBX.out w3 kr_w3; obtain ⟨f0, f1⟩ := HC.out _ K_w3; clear hown3 hg3)
          go_roundw
          case rel => exact ⟨q + 1, z + 1, A_a, c_a, acc ++ [⟨x, y⟩], nn, dn, by omega, by have := HZ.out; omega, by go_num, rfl, rfl, rfl, hf, Lib.hid ho_a, kr_w3⟩
          case measure => simp [intOf]; omega
    · obtain rfl : q = n := by omega
      obtain ⟨b0, b1, b2⟩ := HBX.out wr kr
      rw [List.take_of_length_le (by rw [HL.out]; exact Nat.le_refl _)] at hst
      have hF := HF.out
      rw [hst.out] at hF
      have hfin : finalW d k v ⟨acc, nn, dn⟩ = (if d = 3 ∧ dn = false then acc ++ [⟨k, v⟩] else acc, if d = 3 then 1 else nn) := rfl
      rw [hfin] at hF
      clear hst hfin
      have HW := Lib.hid hF
      clear hF
      by_cases h3 : d = 3
      · subst h3
        cases dn with
        | true =>
          have hW : W = (acc, 1) := by rw [← HW.out]; simp
          have H1 : Hid (W.1 = _) := Lib.hid (congrArg Prod.fst hW)
          have H2 : Hid (W.2 = _) := Lib.hid (congrArg Prod.snd hW)
          clear HW hW
          go_wp2_with fail
          go_ret2
          exact ⟨B, z, ⟨e, by rw [H2.out]; rfl⟩, by rw [H1.out]; exact ho.kr, by omega, K0⟩
        | false =>
          have hW : W = (acc ++ [⟨k, v⟩], 1) := by rw [← HW.out]; simp
          have H1 : Hid (W.1 = _) := Lib.hid (congrArg Prod.fst hW)
          have H2 : Hid (W.2 = _) := Lib.hid (congrArg Prod.snd hW)
          clear HW hW
          have HO_a := Lib.hid (ho.own.alloc (.cells #[.string k, .string v] 46))
          have HSRC_a : Hid (Rd (wr.alloc (.cells #[.string k, .string v] 46)) (wr.heap.size + 1) (some ⟨wr.heap.size, 0, none⟩) [.string k, .string v]) := Lib.hid (Rd.new wr 46 [.string k, .string v])
          have HSW_a := Lib.hid (show w.heap.size + 1 ≤ (wr.alloc (.cells #[.string k, .string v] 46)).heap.size by have := kr.size; simp at this ⊢; omega)
          have HKR_a := Lib.hid (kp_alloc kr (.cells #[.string k, .string v] 46))
          clear ho
          go_wp2_with (at_builtin; refine wpList_append_rds rfl _ _ _ rfl (w.heap.size + 1) 46 i0 _ 2 32 Tryd.underlying29 hi hz0 hz1 hz2 rfl (by omega) _ (z) _ rfl HO_a.out _ _ _ _ [.string k, .string v] rfl rfl HSRC_a.out (by simp [Value.oneCell']) (by unfold maxLen; omega) (by omega) HSW_a.out ?_; intro v3 w3 hown3 hg3; obtain ⟨A_a, c_a, rfl, ho_a⟩ := OK.push hown3; have kr_w3 := HKR_a.out.trans ((below_own_s HO_a.out hg3 HSW_a.out).mono (by simp)); have K_w3 := kp_trans kw kr_w3; obtain ⟨e0, e1, e2⟩ := HBX.out w3 kr_w3; clear hown3 hg3)
          go_ret2
          exact ⟨A_a, z + 1, ⟨c_a, by rw [H2.out]; rfl⟩, by rw [H1.out]; exact ho_a.kr, by omega, K_w3⟩
      · have n3 : (d == 3) = false := by simpa using h3
        have hW : W = (acc, nn) := by rw [← HW.out, if_neg (fun h => h3 h.1), if_neg h3]
        have H1 : Hid (W.1 = _) := Lib.hid (congrArg Prod.fst hW)
        have H2 : Hid (W.2 = _) := Lib.hid (congrArg Prod.snd hW)
        clear HW hW h3
        go_wp2_with fail
        go_ret2
        exact ⟨B, z, ⟨e, by rw [H2.out]; rfl⟩, by rw [H1.out]; exact ho.kr, by omega, K0⟩
end

/- PlanDoes: what any plan reads of any table, and writes to it, is as the document says: the walk. -/
section
open Go.RowKit
set_option maxRecDepth 100000

/-- rows and answers, as facts of a value -/
def krStb (n : Nat) (ts : List Kv) : Stb := ⟨fun v u => ∃ B d, v = .slice B n d ∧ KR u B n ts, fun _ _ _ ⟨B, d, h, r⟩ hb => ⟨B, d, h, r.next hb⟩⟩
def kwStb (ts : List Kv) : Stb := ⟨fun v u => ∃ B m d, v = .slice B m d ∧ KR u B m ts ∧ m ≤ 2000, fun _ _ _ ⟨B, m, d, h, r, z⟩ hb => ⟨B, m, d, h, r.next hb, z⟩⟩
def wrStb (ts : List Kv) (x : Int) : Stb := ⟨fun v u => ∃ B m d, v = .tuple #[.slice B m d, .int .i64 x] ∧ KR u B m ts ∧ m ≤ 2000, fun _ _ _ ⟨B, m, d, h, r, z⟩ hb => ⟨B, m, d, h, r.next hb, z⟩⟩
def xrStb (ss : List ByteArray) : Stb := ⟨fun v u => ∃ B m d, v = .slice B m d ∧ XR u B m ss, fun _ _ _ ⟨B, m, d, h, r⟩ hb => ⟨B, m, d, h, r.next hb⟩⟩

theorem firsts_short (l : List Kv) : (firstsF l).length ≤ 20 := by
  unfold firstsF
  rw [firsts_len, List.length_take]
  omega
theorem reads_short (d : Int) (k : ByteArray) (l : List Kv) : (readsF d k l).length ≤ 20 := by
  unfold readsF
  split
  · split <;> simp
  split
  · exact firsts_short l
  · simp

set_option maxHeartbeats 16000000 in
theorem planDoes_walk (d : Int) (k v : ByteArray) (A : Option Addr) (n c : Nat) (ts : List Kv) (w : World) (hk : k.size ≤ 140737488351232) (hv : v.size ≤ 140737488351232) (hr : KR w A n ts) (ht : ∀ t ∈ ts, t.k.size ≤ 140737488351232 ∧ t.v.size ≤ 140737488351232) (hnc : n ≤ c) (hc : c * 32 ≤ 140737488351232) (hL : Lw w) :
    Calls Tryd.prog 3 #[planV d k v, .slice A n c] w fun e w' => e = .returned (.bool true) ∧ Below w.heap.size w w' := by
  have kw := kp_new w (.cells #[.int .i64 d, .string k, .string v] 23)
  have HA0 := Lib.hid (awake6 _ (hL.next kw))
  have hbx : ∀ u, Below (w.alloc (.cells #[.int .i64 d, .string k, .string v] 23)).heap.size (w.alloc (.cells #[.int .i64 d, .string k, .string v] 23)) u → _ := fun u hu => box3 hu
  have HBX := Lib.hid hbx
  have HR := Lib.hid hr
  have HT := Lib.hid ht
  have hn32 : n * 32 ≤ 140737488351232 := by omega
  have hwl := writes_len d k v ts
  have hrl := reads_short d k ts
  have hWw := writes_ok d k v A n c ts
  unfold WrTo at hWw
  have hw1 : Hid ((writesF d k v ts).1 = (writesF d k v ts).1) := Lib.hid rfl
  have hw2 : Hid ((writesF d k v ts).2 = (writesF d k v ts).2) := Lib.hid rfl
  have hw3 : Hid (readsF d k ts = readsF d k ts) := Lib.hid rfl
  obtain ⟨W1, HW1⟩ : ∃ W1, Hid ((writesF d k v ts).1 = W1) := ⟨_, hw1⟩
  obtain ⟨W2, HW2⟩ : ∃ W2, Hid ((writesF d k v ts).2 = W2) := ⟨_, hw2⟩
  obtain ⟨RD, HRD⟩ : ∃ RD, Hid (readsF d k ts = RD) := ⟨_, hw3⟩
  rw [HW1.out, HW2.out] at hwl hWw
  rw [HRD.out] at hrl
  have HWL := Lib.hid hwl
  have HRL := Lib.hid hrl
  have HWW := Lib.hid hWw
  clear hbx hr ht hL hwl hrl hWw hw1 hw2 hw3
  unfold planV
  go_enter Tryd.func3, Tryd.ntmps3
  go_wp2_with fail
  refine HA0.out.mono ?_
  rintro e w1 ⟨rfl, k1⟩
  have K1 := kp_trans kw k1
  have HLG := Lib.hid (large_ok A n c ts w1 (HR.out.next K1) hn32 HT.out)
  clear HA0
  go_wp2_with fail
  refine HLG.out.mono ?_
  rintro e w2 ⟨bl, rfl, hbl, k2⟩
  have K2 := kp_trans K1 k2
  have k02 := kp_trans k1 k2
  obtain ⟨b0, b1, b2⟩ := HBX.out w2 k02
  clear HLG
  cases bl with
  | true =>
    clear hbl
    go_wp2_with fail
    go_ret
    exact ⟨rfl, K2⟩
  | false =>
  obtain ⟨hn100, hsrt⟩ := hbl rfl
  have HS := Lib.hid hsrt
  clear hbl hsrt
  by_cases hkv : (1000 : Int) < (k.size : Int) + (v.size : Int)
  · go_wp2_with fail
    go_ret
    exact ⟨rfl, K2⟩
  have HWC := Lib.hid (HWW.out w2 (HR.out.next K2) hnc HS.out (by omega))
  clear HWW
  go_wp2_with fail
  refine HWC.out.mono ?_
  rintro e w3 ⟨A2, n2, c2, rfl, ho2, k3⟩
  have K3 := kp_trans K2 k3
  have k03 := kp_trans k02 k3
  have hl2 := ho2.len
  have hnl := HR.out.len
  have hn2 : n2 ≤ 101 := by rcases HWL.out with ⟨_, h⟩ | ⟨_, h, _⟩ <;> omega
  have hn900 : n ≤ 900 := by omega
  have HB := Lib.hid (fun u (hu : Below w3.heap.size w3 u) => HBX.out u (kp_trans k03 hu))
  have HK := Lib.hid (fun u (hu : Below w3.heap.size w3 u) => HR.out.next (kp_trans K3 hu))
  have HA := Lib.hid (fun u (hu : Below w3.heap.size w3 u) => ho2.kr.next hu)
  clear HWC hl2 hnl ho2 b0 b1 b2 hkv
  go_wp2_with fail
  refine wp_region_specs (S := fun u => Below w3.heap.size w3 u) (Sp := [(30, Stb.eq (.agg #[.int .i64 d, .string k, .string v])), (31, Stb.eq (.slice A n c)), (32, krStb n ts), (33, wrStb W1 W2), (29, wrStb W1 W2), (34, kwStb W1), (35, Stb.eq (.int .i64 W2)), (7, kwStb W1), (8, Stb.eq (.int .i64 W2))]) (by kernel_rfl) (by kernel_rfl) (kp_drewN _ 1) ?_ ?_
  · refine EachOp.cons ?_ ?_
    · intro a u hst hS hdep
      have h2 : a.tmps.getD 2 undef = .pointer (some ⟨w.heap.size, 0, none⟩) := hst.out 2 (by kernel_rfl)
      refine ⟨trivial, ?_⟩
      have g2 := gd h2
      obtain ⟨x0, x1, x2⟩ := HB.out u hS
      go_simp
      exact Goes.same hS rfl
    refine EachOp.cons ?_ ?_
    · intro a u hst hS hdep
      have h1 : a.tmps.getD 1 undef = .slice A n c := hst.out 1 (by kernel_rfl)
      refine ⟨trivial, ?_⟩
      have g1 := gd h1
      go_simp
      exact Goes.same hS rfl
    refine EachOp.cons ?_ ?_
    · intro a u hst hS hdep
      have h31 : a.tmps.getD 31 undef = .slice A n c := hdep 31 (by kernel_rfl)
      refine ⟨trivial, ?_⟩
      have g31 := gd h31
      go_simp
      refine (pairs_ok A n c ts u (HK.out u hS) hn32).mono ?_
      rintro e u' ⟨B, d', rfl, hr, hb'⟩
      exact Goes.next (kp_trans hS hb') hb' ⟨_, _, rfl, hr⟩
    refine EachOp.cons ?_ ?_
    · intro a u hst hS hdep
      have h30 : a.tmps.getD 30 undef = .agg #[.int .i64 d, .string k, .string v] := hdep 30 (by kernel_rfl)
      obtain ⟨B32, e32, h32, r32⟩ := hdep 32 (by kernel_rfl)
      refine ⟨trivial, ?_⟩
      have g30 := gd h30
      have g32 := gd h32
      go_simp
      refine (rwrites_ok d k v B32 n e32 ts u r32 HS.out hn900).mono ?_
      rintro e u' ⟨B, m, d', rfl, hr, hm, hb'⟩
      rw [HW1.out] at hr
      rw [HW2.out]
      exact Goes.next (kp_trans hS hb') hb' ⟨_, _, _, rfl, hr, hm⟩
    refine EachOp.cons ?_ ?_
    · intro a u hst hS hdep
      obtain ⟨B33, m33, e33, h33, r33, z33⟩ := hdep 33 (by kernel_rfl)
      refine ⟨trivial, ?_⟩
      have g33 := gd h33
      go_simp
      exact Goes.same hS ⟨_, _, _, rfl, r33, z33⟩
    refine EachOp.cons ?_ ?_
    · intro a u hst hS hdep
      obtain ⟨B29, m29, e29, h29, r29, z29⟩ := hdep 29 (by kernel_rfl)
      refine ⟨trivial, ?_⟩
      have g29 := gd h29
      go_simp
      exact Goes.same hS ⟨_, _, _, rfl, r29, z29⟩
    refine EachOp.cons ?_ ?_
    · intro a u hst hS hdep
      obtain ⟨B29, m29, e29, h29, r29, z29⟩ := hdep 29 (by kernel_rfl)
      refine ⟨trivial, ?_⟩
      have g29 := gd h29
      go_simp
      exact Goes.same hS rfl
    refine EachOp.cons ?_ ?_
    · intro a u hst hS hdep
      obtain ⟨B34, m34, e34, h34, r34, z34⟩ := hdep 34 (by kernel_rfl)
      refine ⟨trivial, ?_⟩
      have g34 := gd h34
      go_simp
      exact Goes.same hS ⟨_, _, _, rfl, r34, z34⟩
    refine EachOp.cons ?_ ?_
    · intro a u hst hS hdep
      have h35 : a.tmps.getD 35 undef = .int .i64 W2 := hdep 35 (by kernel_rfl)
      refine ⟨trivial, ?_⟩
      have g35 := gd h35
      go_simp
      exact Goes.same hS rfl
    exact EachOp.nil
  · intro a u hst hS hdep
    have h30 : a.tmps.getD 30 undef = .agg #[.int .i64 d, .string k, .string v] := hdep 30 (by kernel_rfl)
    have h31 : a.tmps.getD 31 undef = .slice A n c := hdep 31 (by kernel_rfl)
    obtain ⟨B32, e32, h32, r32⟩ := hdep 32 (by kernel_rfl)
    obtain ⟨B33, m33, e33, h33, r33, z33⟩ := hdep 33 (by kernel_rfl)
    obtain ⟨B29, m29, e29, h29, r29, z29⟩ := hdep 29 (by kernel_rfl)
    obtain ⟨B34, m34, e34, h34, r34, z34⟩ := hdep 34 (by kernel_rfl)
    have h35 : a.tmps.getD 35 undef = .int .i64 W2 := hdep 35 (by kernel_rfl)
    obtain ⟨B7, m7, e7, h7, r7, z7⟩ := hdep 7 (by kernel_rfl)
    have h8 : a.tmps.getD 8 undef = .int .i64 W2 := hdep 8 (by kernel_rfl)
    have hfr := hst.frame [(30, .agg #[.int .i64 d, .string k, .string v]), (31, .slice A n c), (32, .slice B32 n e32), (33, .tuple #[.slice B33 m33 e33, .int .i64 W2]), (29, .tuple #[.slice B29 m29 e29, .int .i64 W2]), (34, .slice B34 m34 e34), (35, .int .i64 W2), (7, .slice B7 m7 e7), (8, .int .i64 W2)] (by kernel_rfl) ⟨h30, h31, h32, h33, h29, h34, h35, h7, h8, trivial⟩
    clear hst hdep h30 h31 h32 h33 h29 h34 h35 h7 h8
    subst hfr
    simp only [List.foldl_cons, List.foldl_nil, List.setIfInBounds_toArray, List.set_cons_zero, List.set_cons_succ]
    obtain ⟨w4, hw4⟩ : ∃ x, x = u := ⟨u, rfl⟩
    subst hw4
    have K4 := kp_trans K3 hS
    have HB4 := Lib.hid (fun x (hx : Below w4.heap.size w4 x) => HB.out x (kp_trans hS hx))
    have HK4 := Lib.hid (fun x (hx : Below w4.heap.size w4 x) => HK.out x (kp_trans hS hx))
    have HA4 := Lib.hid (fun x (hx : Below w4.heap.size w4 x) => HA.out x (kp_trans hS hx))
    have HB7 := Lib.hid (fun x (hx : Below w4.heap.size w4 x) => r7.next hx)
    clear hS r32 r33 z33 r29 z29 r34 z34 r7
    go_wp2_with fail
    refine wp_region_specs (S := fun u => Below w4.heap.size w4 u) (Sp := [(36, Stb.eq (.agg #[.int .i64 d, .string k, .string v])), (37, Stb.eq (.slice A n c)), (38, xrStb RD), (39, Stb.eq (.agg #[.int .i64 d, .string k, .string v])), (40, Stb.eq (.slice A n c)), (41, krStb n ts), (42, xrStb RD), (43, Stb.eq (.bool true)), (44, Stb.eq (.bool true)), (45, Stb.eq (.slice A2 n2 c2)), (46, krStb n2 W1), (47, Stb.eq (.slice B7 m7 e7)), (48, Stb.eq (.bool true)), (49, Stb.eq (.bool true)), (50, Stb.eq (.bool true)), (51, Stb.eq (.int .i64 W2)), (52, Stb.eq (.int .i64 W2)), (53, Stb.eq (.bool true)), (54, Stb.eq (.bool true)), (4, Stb.eq (.bool true))]) (by kernel_rfl) (by kernel_rfl) (kp_drewN _ 1) ?_ ?_
    · refine EachOp.cons ?_ ?_
      · intro a u hst hS hdep
        have h2 : a.tmps.getD 2 undef = .pointer (some ⟨w.heap.size, 0, none⟩) := hst.out 2 (by kernel_rfl)
        refine ⟨trivial, ?_⟩
        have g2 := gd h2
        obtain ⟨x0, x1, x2⟩ := HB4.out u hS
        go_simp
        exact Goes.same hS rfl
      refine EachOp.cons ?_ ?_
      · intro a u hst hS hdep
        have h1 : a.tmps.getD 1 undef = .slice A n c := hst.out 1 (by kernel_rfl)
        refine ⟨trivial, ?_⟩
        have g1 := gd h1
        go_simp
        exact Goes.same hS rfl
      refine EachOp.cons ?_ ?_
      · intro a u hst hS hdep
        have h36 : a.tmps.getD 36 undef = .agg #[.int .i64 d, .string k, .string v] := hdep 36 (by kernel_rfl)
        have h37 : a.tmps.getD 37 undef = .slice A n c := hdep 37 (by kernel_rfl)
        refine ⟨trivial, ?_⟩
        have g36 := gd h36
        have g37 := gd h37
        go_simp
        refine (reads_ok d k v A n c ts u (HK4.out u hS) hnc HS.out (by omega)).mono ?_
        rintro e u' ⟨B, m, d', rfl, hr, hb'⟩
        rw [HRD.out] at hr
        exact Goes.next (kp_trans hS hb') hb' ⟨_, _, _, rfl, hr⟩
      refine EachOp.cons ?_ ?_
      · intro a u hst hS hdep
        have h2 : a.tmps.getD 2 undef = .pointer (some ⟨w.heap.size, 0, none⟩) := hst.out 2 (by kernel_rfl)
        refine ⟨trivial, ?_⟩
        have g2 := gd h2
        obtain ⟨x0, x1, x2⟩ := HB4.out u hS
        go_simp
        exact Goes.same hS rfl
      refine EachOp.cons ?_ ?_
      · intro a u hst hS hdep
        have h1 : a.tmps.getD 1 undef = .slice A n c := hst.out 1 (by kernel_rfl)
        refine ⟨trivial, ?_⟩
        have g1 := gd h1
        go_simp
        exact Goes.same hS rfl
      refine EachOp.cons ?_ ?_
      · intro a u hst hS hdep
        have h40 : a.tmps.getD 40 undef = .slice A n c := hdep 40 (by kernel_rfl)
        refine ⟨trivial, ?_⟩
        have g40 := gd h40
        go_simp
        refine (pairs_ok A n c ts u (HK4.out u hS) hn32).mono ?_
        rintro e u' ⟨B, d', rfl, hr, hb'⟩
        exact Goes.next (kp_trans hS hb') hb' ⟨_, _, rfl, hr⟩
      refine EachOp.cons ?_ ?_
      · intro a u hst hS hdep
        have h39 : a.tmps.getD 39 undef = .agg #[.int .i64 d, .string k, .string v] := hdep 39 (by kernel_rfl)
        obtain ⟨B41, e41, h41, r41⟩ := hdep 41 (by kernel_rfl)
        refine ⟨trivial, ?_⟩
        have g39 := gd h39
        have g41 := gd h41
        go_simp
        refine (rreads_ok d k v B41 n e41 ts u r41 HS.out (by omega)).mono ?_
        rintro e u' ⟨B, m, d', rfl, hr, _, hb'⟩
        rw [HRD.out] at hr
        exact Goes.next (kp_trans hS hb') hb' ⟨_, _, _, rfl, hr⟩
      refine EachOp.cons ?_ ?_
      · intro a u hst hS hdep
        obtain ⟨B38, m38, e38, h38, r38⟩ := hdep 38 (by kernel_rfl)
        obtain ⟨B42, m42, e42, h42, r42⟩ := hdep 42 (by kernel_rfl)
        refine ⟨trivial, ?_⟩
        have g38 := gd h38
        have g42 := gd h42
        go_simp
        have hl38 := r38.len
        have hl42 := r42.len
        have hrdl := HRL.out
        refine (texts6_ok B38 B42 m38 m42 e38 e42 RD RD u r38 r42 (by omega) (by omega) true (Lib.hid (by simp))).mono ?_
        rintro e u' ⟨rfl, m', rfl⟩
        exact Goes.next (kp_trans hS (kp_drewN u m')) (kp_drewN u m') rfl
      refine EachOp.cons ?_ ?_
      · intro a u hst hS hdep
        have h43 : a.tmps.getD 43 undef = .bool true := hdep 43 (by kernel_rfl)
        refine ⟨trivial, ?_⟩
        have g43 := gd h43
        go_simp
        exact Goes.same hS rfl
      refine EachOp.cons ?_ ?_
      · intro a u hst hS hdep
        have h5 : a.tmps.getD 5 undef = .slice A2 n2 c2 := hst.out 5 (by kernel_rfl)
        have h44 : a.tmps.getD 44 undef = .bool true := hdep 44 (by kernel_rfl)
        refine ⟨⟨44, by kernel_rfl, h44⟩, ?_⟩
        clear h44
        have g5 := gd h5
        go_simp
        exact Goes.same hS rfl
      refine EachOp.cons ?_ ?_
      · intro a u hst hS hdep
        have h45 : a.tmps.getD 45 undef = .slice A2 n2 c2 := hdep 45 (by kernel_rfl)
        have h44 : a.tmps.getD 44 undef = .bool true := hdep 44 (by kernel_rfl)
        refine ⟨⟨44, by kernel_rfl, h44⟩, ?_⟩
        clear h44
        have g45 := gd h45
        go_simp
        refine (pairs_ok A2 n2 c2 W1 u (HA4.out u hS) (by omega)).mono ?_
        rintro e u' ⟨B, d', rfl, hr, hb'⟩
        exact Goes.next (kp_trans hS hb') hb' ⟨_, _, rfl, hr⟩
      refine EachOp.cons ?_ ?_
      · intro a u hst hS hdep
        have h7 : a.tmps.getD 7 undef = .slice B7 m7 e7 := hst.out 7 (by kernel_rfl)
        have h44 : a.tmps.getD 44 undef = .bool true := hdep 44 (by kernel_rfl)
        refine ⟨⟨44, by kernel_rfl, h44⟩, ?_⟩
        clear h44
        have g7 := gd h7
        go_simp
        exact Goes.same hS rfl
      refine EachOp.cons ?_ ?_
      · intro a u hst hS hdep
        obtain ⟨B46, e46, h46, r46⟩ := hdep 46 (by kernel_rfl)
        have h47 : a.tmps.getD 47 undef = .slice B7 m7 e7 := hdep 47 (by kernel_rfl)
        have h44 : a.tmps.getD 44 undef = .bool true := hdep 44 (by kernel_rfl)
        refine ⟨⟨44, by kernel_rfl, h44⟩, ?_⟩
        clear h44
        have g46 := gd h46
        have g47 := gd h47
        go_simp
        refine (psame_ok B46 B7 n2 m7 e46 e7 W1 W1 u r46 (HB7.out u hS) (by omega) (by omega) true (Lib.hid (by simp))).mono ?_
        rintro e u' ⟨rfl, m', rfl⟩
        exact Goes.next (kp_trans hS (kp_drewN u m')) (kp_drewN u m') rfl
      refine EachOp.cons ?_ ?_
      · intro a u hst hS hdep
        have h44 : a.tmps.getD 44 undef = .bool true := hdep 44 (by kernel_rfl)
        have h48 : a.tmps.getD 48 undef = .bool true := hdep 48 (by kernel_rfl)
        refine ⟨trivial, ?_⟩
        have g44 := gd h44
        have g48 := gd h48
        go_simp
        exact Goes.same hS rfl
      refine EachOp.cons ?_ ?_
      · intro a u hst hS hdep
        have h49 : a.tmps.getD 49 undef = .bool true := hdep 49 (by kernel_rfl)
        refine ⟨trivial, ?_⟩
        have g49 := gd h49
        go_simp
        exact Goes.same hS rfl
      refine EachOp.cons ?_ ?_
      · intro a u hst hS hdep
        have h6 : a.tmps.getD 6 undef = .int .i64 W2 := hst.out 6 (by kernel_rfl)
        have h50 : a.tmps.getD 50 undef = .bool true := hdep 50 (by kernel_rfl)
        refine ⟨⟨50, by kernel_rfl, h50⟩, ?_⟩
        clear h50
        have g6 := gd h6
        go_simp
        exact Goes.same hS rfl
      refine EachOp.cons ?_ ?_
      · intro a u hst hS hdep
        have h8 : a.tmps.getD 8 undef = .int .i64 W2 := hst.out 8 (by kernel_rfl)
        have h50 : a.tmps.getD 50 undef = .bool true := hdep 50 (by kernel_rfl)
        refine ⟨⟨50, by kernel_rfl, h50⟩, ?_⟩
        clear h50
        have g8 := gd h8
        go_simp
        exact Goes.same hS rfl
      refine EachOp.cons ?_ ?_
      · intro a u hst hS hdep
        have h51 : a.tmps.getD 51 undef = .int .i64 W2 := hdep 51 (by kernel_rfl)
        have h52 : a.tmps.getD 52 undef = .int .i64 W2 := hdep 52 (by kernel_rfl)
        have h50 : a.tmps.getD 50 undef = .bool true := hdep 50 (by kernel_rfl)
        refine ⟨⟨50, by kernel_rfl, h50⟩, ?_⟩
        clear h50
        have g51 := gd h51
        have g52 := gd h52
        go_simp
        exact Goes.same hS rfl
      refine EachOp.cons ?_ ?_
      · intro a u hst hS hdep
        have h50 : a.tmps.getD 50 undef = .bool true := hdep 50 (by kernel_rfl)
        have h53 : a.tmps.getD 53 undef = .bool true := hdep 53 (by kernel_rfl)
        refine ⟨trivial, ?_⟩
        have g50 := gd h50
        have g53 := gd h53
        go_simp
        exact Goes.same hS rfl
      refine EachOp.cons ?_ ?_
      · intro a u hst hS hdep
        have h54 : a.tmps.getD 54 undef = .bool true := hdep 54 (by kernel_rfl)
        refine ⟨trivial, ?_⟩
        have g54 := gd h54
        go_simp
        exact Goes.same hS rfl
      exact EachOp.nil
    · intro a u hst hS hdep
      have h4 : a.tmps.getD 4 undef = .bool true := hdep 4 (by kernel_rfl)
      have hsz : a.tmps.size = 55 := hst.size
      go_wp2_with fail
      exact bodyPost_ret ((results_tmp rfl _ _ _).trans (by rw [h4])) hst.defers ⟨rfl, kp_trans K4 hS⟩
end

/- From a walk to a law's row: arguments opened, and shut behind a call that left alone what was there before it. -/
section
open Go.RowKit Go.ChangeShapes Go.WideShapes Go.ChangeAt

theorem own0 : ownKnob Tryd.prog.godebug = none := by kernel_rfl
theorem laid0 : laidOutB Tryd.prog = true := by kernel_rfl

section
variable {H : Type} {enc : TypeId × Value → H} {P : Program}
theorem trodAll_later {W W' : World} (hl : laidOutB P = true) (hb : Below W.heap.size W W') : ∀ (ts : List TypeId) (vs : List Value) (ds : List (DataW H)) (ps : List MemPlace),
    (∀ t ∈ ts, P.readableRec t = true ∧ t < P.types.size) → DataW.TrodAll enc P W 0 (fun _ => true) true ts vs ds ps → (∀ x ∈ ps, x.block < W.heap.size) →
    DataW.TrodAll enc P W' 0 (fun b => decide (b < W.heap.size)) true ts vs ds ps
  | [], vs, ds, ps, _, h, _ => by
    cases vs <;> cases ds <;> simp [DataW.TrodAll] at h ⊢
    exact h
  | t :: ts, vs, ds, ps, ht, h, hlt => by
    obtain ⟨v, vs', d, ds', p, q, rfl, rfl, rfl, h1, h2⟩ := trodAll_cons h
    have h3 := Below.trod hl (ht t (by simp)).1 (ht t (by simp)).2 h1 hb (fun x hx => hlt x (by simp [hx]))
    have h4 := trodAll_later hl hb ts vs' ds' q (fun u hu => ht u (by simp [hu])) h2 (fun x hx => hlt x (by simp [hx]))
    exact trodAll_cons_mk h3 h4

/-- a law that answers true, and leaves alone what was there -/
theorem law_post {f : Func} {s : ChangeSpec} {tb : TypeId} {W W' : World} {args : Array Value} {ds gs : List (DataW H)} {before : List MemPlace}
    (hl : laidOutB P = true) (hts : ∀ t ∈ f.params.toList, P.readableRec t = true ∧ t < P.types.size) (hv : s.vars = []) (hrt : f.resultTypes = #[tb]) (htb : P.underlying tb = some .bool)
    (hW : DataW.Whole enc P f.params.toList s.vars false W args.toList ds gs before) (hfn : s.fn H (ds ++ gs) = { results := [.lit (.bool true)], args := ds })
    (hb : Below W.heap.size W W') : s.post enc P f false true false false W args (.bool true) W' := by
  have hlt : ∀ p ∈ before, p.block < W.heap.size := fun p hp => hW.lt p hp
  have hW' := hW
  obtain ⟨p, q, hA, hV, rfl, _, _⟩ := hW
  rw [hv] at hV
  obtain ⟨rfl, rfl⟩ := trodVars_none hV
  refine ⟨ds, [], p ++ [], [], p, [], hW', ?_, ?_, ?_, World.keptBut_mono (fun x hx => ⟨hx, .inr (.inl (by simpa using hx))⟩) (hb.frame (· ∈ p ++ [])), fun h => by cases h⟩
  · rw [hfn, hrt]
    exact trodAll_mk1 (shut_bool htb true)
  · rw [hfn]
    exact trodAll_later hl hb _ _ _ _ hts hA (fun x hx => hlt x (by simp [hx]))
  · rw [hfn, hv]
    simp [DataW.TrodVars]

theorem mapM_getD (zs : List Int) (h : ∀ n ∈ zs, (Lit.int .u8 n).wf = true) : (zs.map fun n => bv (UInt8.ofNat n.toNat)) = zs.map (Value.int .u8) := by
  apply List.map_congr_left
  intro n hn
  have hw := h n hn
  simp [Lit.wf, IntKind.min, IntKind.max, IntKind.signed, IntKind.bits] at hw
  simp only [bv, UInt8.toNat_ofNat']
  congr 1
  omega

/-- an argument that is a slice of bytes -/
theorem open_bytes {r : Reach} {b0 : Nat} {W : World} {t e : TypeId} {v : Value} {d : DataW H} {ps : List MemPlace} (ht : P.underlying t = some (.slice e)) (he : P.underlying e = some (.int .u8)) (hc : P.cellsOf e = 1)
    (hval : Value.okWide P W r b0 t v) (h : DataW.Trod enc P W 0 (fun _ => true) true t v d ps) :
    ∃ A l c bs, v = .slice A l c ∧ Sl W W.heap.size A l c bs ∧ c ≤ 9223372036854775807 := by
  obtain ⟨a, l, c, rfl⟩ := okWide_slice ht hval
  obtain ⟨fuel, hf⟩ := h
  rcases open_ints ht he hc hf with ⟨hcs, _⟩ | ⟨ad, len, cap, zs, hcs, _, hle, hmax, hzl, _, hcell, hwf⟩
  · simp [Value.cells] at hcs
    obtain ⟨rfl, rfl, rfl⟩ := hcs
    exact ⟨none, 0, 0, [], rfl, Sl.nil _ _, by omega⟩
  · simp [Value.cells] at hcs
    obtain ⟨rfl, rfl, rfl⟩ := hcs
    simp only [if_true] at hzl
    refine ⟨some ad, l, c, (zs.take l).map fun n => UInt8.ofNat n.toNat, rfl, ⟨?_, by simp; omega, hle⟩, by unfold maxLen at hmax; omega⟩
    have e1 : bvs ((zs.take l).map fun n => UInt8.ofNat n.toNat) = (zs.take l).map (Value.int .u8) := by
      rw [bvs, List.map_map]
      exact mapM_getD (zs.take l) (fun n hn => hwf n (List.mem_of_mem_take hn))
    rw [e1]
    rcases Nat.eq_zero_or_pos l with rfl | hpos
    · exact .inl (by simp)
    · have hc0 : ∀ i, i < zs.length → W.cell? (ad.add i) = some (.int .u8 (zs.getD i 0)) := hcell
      refine .inr ⟨ad, rfl, ?_, fun j u hu => ?_⟩
      · have := World.block_lt_of_cell? W _ (hc0 0 (by omega))
        rwa [add_block] at this
      · have hj : j < l := by
          have := (List.getElem?_eq_some_iff.1 hu).1
          simp at this
          omega
        rw [hc0 j (by omega)]
        rw [List.getElem?_map, List.getElem?_take_of_lt hj, List.getElem?_eq_getElem (by omega)] at hu
        simp at hu
        rw [← hu]
        simp [List.getD, List.getElem?_eq_getElem (show j < zs.length by omega)]
end
theorem wf64 {a : Int} (h : (Lit.int .i64 a).wf = true) : -9223372036854775808 ≤ a ∧ a ≤ 9223372036854775807 := by
  simpa [Lit.wf, IntKind.min, IntKind.max, IntKind.signed, IntKind.bits] using h
theorem wfu64 {a : Int} (h : (Lit.int .u64 a).wf = true) : ∃ n : Nat, a = n ∧ n < 18446744073709551616 := by
  have h2 : 0 ≤ a ∧ a ≤ 18446744073709551615 := by simpa [Lit.wf, IntKind.min, IntKind.max, IntKind.signed, IntKind.bits] using h
  exact ⟨a.toNat, by omega, by omega⟩
end

/- Arguments that are slices of plain data, or structs of them, opened: rows of any elements, and how much they weigh. -/
section
open Go.RowKit Go.ChangeShapes Go.WideShapes Go.ChangeAt
set_option maxRecDepth 100000

section
variable {H : Type} {enc : TypeId × Value → H} {P : Program} {W : World}

/-- what a datum weighs is within reach -/
def Light (P : Program) (t : TypeId) (d : DataW H) : Prop := ∀ n ∈ d.weights P t, n ≤ 140737488351232
theorem light_of {ts : List TypeId} {ds : List (DataW H)} (h : (DataW.weightsEach P ts ds).all (· ≤ reachBytes) = true) {j : Nat} {t : TypeId} {d : DataW H} (ht : ts[j]? = some t) (hd : ds[j]? = some d) : Light P t d := fun n hn => by
  have := List.all_eq_true.1 h _ (DataW.weights_mem_each ht hd n hn)
  have h2 : n ≤ reachBytes := by simpa using this
  exact h2
theorem weightsAll_mem {e : TypeId} {ds : List (DataW H)} {d : DataW H} (h : d ∈ ds) {n : Nat} (hn : n ∈ d.weights P e) : n ∈ DataW.weightsAll P e ds := by
  induction ds with
  | nil => simp at h
  | cons x r ih =>
    simp only [DataW.weightsAll, List.mem_append]
    rcases List.mem_cons.1 h with rfl | h
    · exact .inl hn
    · exact .inr (ih h)
theorem Light.slice {t e : TypeId} {elems spare : List (DataW H)} (ht : P.underlying t = some (.slice e)) (h : Light P t (.slice elems spare)) : (elems.length + spare.length) * P.bytesOf e ≤ 140737488351232 ∧ (∀ d ∈ elems, Light P e d) ∧ ∀ d ∈ spare, Light P e d := by
  unfold Light at *
  simp only [DataW.weights, ht] at h
  refine ⟨h _ (by simp), fun d hd n hn => h n ?_, fun d hd n hn => h n ?_⟩
  · exact List.mem_cons_of_mem _ (List.mem_append_left _ (weightsAll_mem hd hn))
  · exact List.mem_cons_of_mem _ (List.mem_append_right _ (weightsAll_mem hd hn))
theorem Light.field {t : TypeId} {fs : Array Field} {parts : List (DataW H)} (ht : P.underlying t = some (.struct fs)) (h : Light P t (.agg parts)) {j : Nat} {f : Field} {d : DataW H} (hf : fs[j]? = some f) (hd : parts[j]? = some d) : Light P f.type d := by
  unfold Light at *
  simp only [DataW.weights, ht] at h
  exact fun n hn => h n (DataW.weights_mem_each (t := f.type) (by simp [hf]) hd n hn)
theorem Light.string {t : TypeId} {s : List UInt8} (h : Light P t (.lit (.string s) : DataW H)) : s.length ≤ 140737488351232 := h _ (by simp [DataW.weights])

/-- cells behind cells are read -/
theorem reads_append {ad : Addr} {xs ys : List Value} (h1 : ∀ j u, xs[j]? = some u → W.cell? (ad.add j) = some u) (h2 : ∀ j u, ys[j]? = some u → W.cell? ((ad.add xs.length).add j) = some u) :
    ∀ j u, (xs ++ ys)[j]? = some u → W.cell? (ad.add j) = some u := by
  intro j u hu
  rcases Nat.lt_or_ge j xs.length with h | h
  · rw [List.getElem?_append_left h] at hu
    exact h1 j u hu
  · rw [List.getElem?_append_right h] at hu
    have := h2 _ u hu
    rwa [add_add, show xs.length + (j - xs.length) = j by omega] at this

/-- a row of elements of any kind, of 'size' cells each -/
theorem open_rows {R : Type} [Inhabited R] {t e : TypeId} {size bytes fuel : Nat} {cs : List Value} {x : DataW H × List MemPlace} {cells : R → List Value} {OK : R → Prop}
    (ht : P.underlying t = some (.slice e)) (hsz : P.cellsOf e = size) (hby : P.bytesOf e = bytes) (hpos : 0 < size)
    (he : ∀ n cs' x', DataW.trod enc P W 0 (fun _ => true) true n e cs' = some x' → Light P e x'.1 → ∃ r, cs' = cells r ∧ OK r)
    (h : DataW.trod enc P W 0 (fun _ => true) true fuel t cs = some x) (hw : Light P t x.1) :
    ∃ A l c, ∃ rs : List R, cs = [.slice A l c] ∧ rs.length = l ∧ Rd W W.heap.size A (rs.flatMap cells) ∧ (∀ r ∈ rs, OK r) ∧ l ≤ c ∧ c * bytes ≤ 140737488351232 := by
  rcases Go.Deep.open_slice ht h with ⟨rfl, _⟩ | ⟨a, len, cap, m, n, D, Pl, rfl, hb, hl, hm, hmm, rfl, hx⟩
  · exact ⟨none, 0, 0, [], rfl, rfl, .inl rfl, fun r hr => by simp at hr, Nat.le_refl _, by omega⟩
  simp only [if_true] at hmm
  subst hmm
  rw [hsz] at hx
  obtain ⟨w1, w2, w3⟩ := Light.slice ht hw
  simp only [List.length_map, List.length_range] at w1
  rw [show len + (m - len) = m by omega, hby] at w1
  have hlight : ∀ i, i < m → Light P e (D i) := fun i hi => by
    rcases Nat.lt_or_ge i len with h | h
    · exact w2 _ (List.mem_map.2 ⟨i, List.mem_range.2 h, rfl⟩)
    · refine w3 _ (List.mem_map.2 ⟨i - len, List.mem_range.2 (by omega), ?_⟩)
      show D (len + (i - len)) = D i
      rw [show len + (i - len) = i by omega]
  obtain ⟨r, hr⟩ := Go.Deep.choose_lt (α := R) (p := fun i r => W.cells? 0 (a.add (i * size)) size = some (cells r) ∧ OK r) (fun i hi => by
    obtain ⟨cs', h1, h2⟩ := hx i hi
    obtain ⟨r, rfl, hok⟩ := he _ _ _ h2 (hlight i hi)
    exact ⟨r, h1, hok⟩)
  have key : ∀ k, k ≤ m → (((List.range k).map r).flatMap cells).length = k * size ∧ ∀ j u, (((List.range k).map r).flatMap cells)[j]? = some u → W.cell? (a.add j) = some u := by
    intro k
    induction k with
    | zero => intro _; exact ⟨by simp, fun j u hu => by simp at hu⟩
    | succ k ih =>
      intro hk
      obtain ⟨i1, i2⟩ := ih (by omega)
      obtain ⟨h1, _⟩ := hr k (by omega)
      obtain ⟨_, hlen, hcell⟩ := World.cells?_some h1
      rw [List.range_succ, List.map_append, List.flatMap_append]
      simp only [List.map_cons, List.map_nil, List.flatMap_cons, List.flatMap_nil, List.append_nil]
      refine ⟨by rw [List.length_append, i1, hlen]; rw [Nat.succ_mul], reads_append i2 fun j u hu => ?_⟩
      rw [i1]
      have hj : j < size := by rw [← hlen]; exact (List.getElem?_eq_some_iff.1 hu).1
      rw [hcell j hj]
      exact hu
  refine ⟨some a, len, m, (List.range len).map r, rfl, by simp, ?_, ?_, hl, w1⟩
  · rcases Nat.eq_zero_or_pos len with rfl | h0
    · exact .inl (by simp)
    · refine .inr ⟨a, rfl, ?_, (key len hl).2⟩
      have hne : 0 < (((List.range len).map r).flatMap cells).length := by rw [(key len hl).1]; exact Nat.mul_pos h0 hpos
      have := World.block_lt_of_cell? W _ ((key len hl).2 0 _ (List.getElem?_eq_getElem hne))
      rwa [add_block] at this
  · intro q hq
    obtain ⟨i, hi, rfl⟩ := List.mem_map.1 hq
    exact (hr i (by have := List.mem_range.1 hi; omega)).2

theorem flat_bytes : ∀ bs : List UInt8, bs.flatMap (fun b => [bv b]) = bvs bs
  | [] => rfl
  | b :: r => congrArg (bv b :: ·) (flat_bytes r)

/-- bytes, by their cells -/
theorem open_bytes_cells {fuel : Nat} {cs : List Value} {t e : TypeId} {x : DataW H × List MemPlace} (ht : P.underlying t = some (.slice e)) (he : P.underlying e = some (.int .u8)) (hc : P.cellsOf e = 1) (hby : P.bytesOf e = 1)
    (h : DataW.trod enc P W 0 (fun _ => true) true fuel t cs = some x) (hw : Light P t x.1) :
    ∃ A l c bs, cs = [.slice A l c] ∧ Sl W W.heap.size A l c bs ∧ c ≤ 140737488351232 := by
  obtain ⟨A, l, c, bs, rfl, hl, hr, _, hlc, hm⟩ := open_rows (R := UInt8) (cells := fun b => [bv b]) (OK := fun _ => True) ht hc hby (by omega) (fun n cs' x' h' _ => by
    obtain ⟨n, rfl, _, hw⟩ := DataW.trod_int he h'
    have hw2 : 0 ≤ n ∧ n ≤ 255 := by simpa [Lit.wf, IntKind.min, IntKind.max, IntKind.signed, IntKind.bits] using hw
    refine ⟨UInt8.ofNat n.toNat, ?_, trivial⟩
    simp only [bv, UInt8.toNat_ofNat']
    congr 2
    omega) h hw
  rw [flat_bytes] at hr
  exact ⟨A, l, c, bs, rfl, ⟨hr, hl, hlc⟩, by omega⟩

/-- an argument that is a slice of bytes -/
theorem open_bytes_w {r : Reach} {b0 : Nat} {t e : TypeId} {v : Value} {d : DataW H} {ps : List MemPlace} (ht : P.underlying t = some (.slice e)) (he : P.underlying e = some (.int .u8)) (hc : P.cellsOf e = 1) (hby : P.bytesOf e = 1)
    (hval : Value.okWide P W r b0 t v) (h : DataW.Trod enc P W 0 (fun _ => true) true t v d ps) (hw : Light P t d) :
    ∃ A l c bs, v = .slice A l c ∧ Sl W W.heap.size A l c bs ∧ c ≤ 140737488351232 := by
  obtain ⟨a, l, c, rfl⟩ := okWide_slice ht hval
  obtain ⟨fuel, hf⟩ := h
  obtain ⟨A, l', c', bs, hcs, hs, hm⟩ := open_bytes_cells ht he hc hby hf hw
  have hcs' : [Value.slice a l c] = [Value.slice A l' c'] := hcs
  simp only [List.cons.injEq, and_true] at hcs'
  exact ⟨A, l', c', bs, hcs', hs, hm⟩

/-- an argument that is a slice of whole numbers -/
theorem flat_ints : ∀ zs : List Int, zs.flatMap (fun z => [Value.int .i64 z]) = zs.map (Value.int .i64)
  | [] => rfl
  | z :: r => congrArg (Value.int .i64 z :: ·) (flat_ints r)
theorem open_ints_w {r : Reach} {b0 : Nat} {t e : TypeId} {v : Value} {d : DataW H} {ps : List MemPlace} (ht : P.underlying t = some (.slice e)) (he : P.underlying e = some (.int .i64)) (hc : P.cellsOf e = 1) (hby : P.bytesOf e = 8)
    (hval : Value.okWide P W r b0 t v) (h : DataW.Trod enc P W 0 (fun _ => true) true t v d ps) (hw : Light P t d) :
    ∃ A l c, ∃ zs : List Int, v = .slice A l c ∧ zs.length = l ∧ Rd W W.heap.size A (zs.map (Value.int .i64)) ∧ (∀ z ∈ zs, -9223372036854775808 ≤ z ∧ z ≤ 9223372036854775807) ∧ l ≤ c ∧ c * 8 ≤ 140737488351232 := by
  obtain ⟨a, l, c, rfl⟩ := okWide_slice ht hval
  obtain ⟨fuel, hf⟩ := h
  obtain ⟨A, l', c', zs, hcs, hl, hr, hok, hlc, hm⟩ := open_rows (R := Int) (cells := fun z => [Value.int .i64 z]) (OK := fun z => -9223372036854775808 ≤ z ∧ z ≤ 9223372036854775807) ht hc hby (by omega) (fun n cs' x' h' _ => by
    obtain ⟨n, rfl, _, hw⟩ := DataW.trod_int he h'
    exact ⟨n, rfl, wf64 hw⟩) hf hw
  have hcs' : [Value.slice a l c] = [Value.slice A l' c'] := hcs
  simp only [List.cons.injEq, and_true] at hcs'
  rw [flat_ints] at hr
  exact ⟨A, l', c', zs, hcs', hl, hr, hok, hlc, hm⟩
end
end

/- Arguments that are tokens, and rows of tokens, opened; a row's world: what the library's variables hold; the closing rule for rows that list variables and lean on the world's shape. -/
section
open Go.RowKit Go.ChangeShapes Go.WideShapes Go.ChangeAt
set_option maxRecDepth 100000

section
variable {H : Type} {enc : TypeId × Value → H} {W : World}
theorem open_tok_cells {fuel : Nat} {cs : List Value} {x : DataW H × List MemPlace} (h : DataW.trod enc Tryd.prog W 0 (fun _ => true) true fuel 89 cs = some x) (hw : Light Tryd.prog 89 x.1) :
    ∃ t : Tk, cs = t.cells ∧ t.t.size ≤ 140737488351232 := by
  obtain ⟨xs, n, _, rfl, hl, hlen, hf⟩ := DataW.trod_struct Tryd.underlying89 h
  have h2 : Tryd.prog.cellsOf 89 = 2 := by kernel_rfl
  rw [h2] at hl
  match cs, hl with
  | [v0, v1], _ =>
    simp only [Array.size] at hlen
    match xs, hlen with
    | [y0, y1], _ =>
      have c1 : Tryd.prog.cellsOf 3 = 1 := by kernel_rfl
      have c2 : Tryd.prog.cellsOf 9 = 1 := by kernel_rfl
      have e0 : DataW.trod enc Tryd.prog W 0 (fun _ => true) true n 3 (([v0, v1].drop 0).take (Tryd.prog.cellsOf 3)) = some y0 := hf 0 _ rfl
      have e1 : DataW.trod enc Tryd.prog W 0 (fun _ => true) true n 9 (([v0, v1].drop 1).take (Tryd.prog.cellsOf 9)) = some y1 := hf 1 _ rfl
      have hw1 : Light Tryd.prog 9 y1.1 := hw.field (j := 1) Tryd.underlying89 rfl rfl
      rw [c1] at e0
      rw [c2] at e1
      obtain ⟨k, hk, _, _⟩ := DataW.trod_int (k := .i64) Tryd.underlying3 (show DataW.trod enc Tryd.prog W 0 (fun _ => true) true n 3 [v0] = some y0 from e0)
      obtain ⟨s, hs, hy, _⟩ := DataW.trod_string Tryd.underlying9 (show DataW.trod enc Tryd.prog W 0 (fun _ => true) true n 9 [v1] = some y1 from e1)
      subst hy
      have hb := hw1.string
      simp only [List.cons.injEq, and_true] at hk hs
      subst hk hs
      exact ⟨⟨k, s⟩, rfl, by rw [text_len] at hb; exact hb⟩

theorem open_tok {r : Reach} {b0 : Nat} {v : Value} {d : DataW H} {ps : List MemPlace} (hval : Value.okWide Tryd.prog W r b0 89 v) (h : DataW.Trod enc Tryd.prog W 0 (fun _ => true) true 89 v d ps) (hw : Light Tryd.prog 89 d) :
    ∃ t : Tk, v = tokV t.k t.t ∧ t.t.size ≤ 140737488351232 := by
  obtain ⟨cs, rfl, hsz⟩ := okWide_struct Tryd.underlying89 hval
  obtain ⟨fuel, hf⟩ := h
  obtain ⟨t, hq, hs⟩ := open_tok_cells hf hw
  refine ⟨t, ?_, hs⟩
  have : cs = t.cells.toArray := by
    have h2 : cs.toList = t.cells := hq
    rw [← h2]
  rw [this]
  rfl

theorem open_toks {r : Reach} {b0 : Nat} {v : Value} {d : DataW H} {ps : List MemPlace} (hval : Value.okWide Tryd.prog W r b0 56 v) (h : DataW.Trod enc Tryd.prog W 0 (fun _ => true) true 56 v d ps) (hw : Light Tryd.prog 56 d) :
    ∃ A l c ts, v = .slice A l c ∧ TR W A l ts ∧ (∀ t ∈ ts, t.t.size ≤ 140737488351232) ∧ l ≤ c ∧ c * 24 ≤ 140737488351232 := by
  obtain ⟨a, l, c, rfl⟩ := okWide_slice Tryd.underlying56 hval
  obtain ⟨fuel, hf⟩ := h
  obtain ⟨A, l', c', ts, hcs, hl, hr, hok, hlc, hm⟩ := open_rows (R := Tk) (cells := Tk.cells) (size := 2) (OK := fun t => t.t.size ≤ 140737488351232) Tryd.underlying56 (by kernel_rfl) (by kernel_rfl) (by omega)
    (fun n cs' x' h' hw' => open_tok_cells h' hw') hf hw
  have hcs' : [Value.slice a l c] = [Value.slice A l' c'] := hcs
  simp only [List.cons.injEq, Value.slice.injEq, and_true] at hcs'
  obtain ⟨rfl, rfl, rfl⟩ := hcs'
  exact ⟨a, l, c, ts, rfl, ⟨hl, hr⟩, hok, hlc, hm⟩
end

theorem lw_of_shaped {W : World} (h : W.ShapedOpen Tryd.prog) : Lw W :=
  Go.Proofs.cell_of_shapedOpen_int (zero := #[.int .i64 0]) (t := 3) h (of_decide_eq_true (by kernel_rfl)) (by kernel_rfl) rfl (by kernel_rfl) (by kernel_rfl) Tryd.underlying3

/-- as the library's closing rule for rows with a condition on the world, the world's shape handed on -/
theorem returns_shaped_and {H : Type} {enc : TypeId × Value → H} {a : Assume} {C : Checked} {os : Os} {f : FuncId} {fn : Func} {s : ChangeSpec} {conds : List PathCond} {apart fresh handsOn again : Bool} {X : World → Array Value → Prop}
    (hX : ∀ (w w' : World) (args : Array Value), w.heap = w'.heap → X w args → X w' args)
    (own : ownKnob C.prog.godebug = none) (started : os.Started) (noInit : C.prog.inits.idxOf? f = none) (hfn : C.prog.funcs[f]? = some fn)
    (witness : ∃ (w : World) (tape : Tape) (i : Input), w.os = os ∧ (w.forCall tape i).Shaped C.prog ∧ i.vars = [] ∧ Input.okWide C.prog (w.forCall tape i) .any w.heap.size f i ∧
      ((s.pre enc C.prog fn conds apart (w.forCall tape i).memory i.args ∧ X (w.forCall tape i).memory i.args) ∧ sizedMet enc C.prog fn (OpenSpec.ofChange s) apart (w.forCall tape i).memory i.args) ∧ a.holds C.prog (lone (Frame.enter C.prog f i.args .normal) [] (w.forCall tape i)))
    (contract : ∀ (W : World) (base : Nat) (args : Array Value) (ds gs : List (DataW H)) (before : List MemPlace),
      (∀ (j : Nat) t v, fn.params[j]? = some t → args[j]? = some v → Value.okWide C.prog W .any base t v) →
      DataW.Whole enc C.prog fn.params.toList s.vars apart W args.toList ds gs before →
      (DataW.weightsEach C.prog (fn.params.toList ++ s.plain.varTypes C.prog) (ds ++ gs)).all (· ≤ reachBytes) = true → X W args → W.ShapedOpen C.prog →
      Calls C.prog f args W fun e W' => ∃ v, e = .returned v ∧ s.post enc C.prog fn apart fresh handsOn again W args v W') :
    ReturnsInHanded a C os f .any (fun w args => (s.pre enc C.prog fn conds apart w args ∧ X w args) ∧ sizedMet enc C.prog fn (OpenSpec.ofChange s) apart w args) (s.post enc C.prog fn apart fresh handsOn again) := by
  refine returnsInHanded_of_calls own started noInit witness ?_
  intro w tape i _ hsh _ hok hpre _
  obtain ⟨_, _, _, fn', hfn', _, _, _, _, hval⟩ := hok
  have e : fn' = fn := Option.some.inj (hfn'.symm.trans hfn)
  subst e
  obtain ⟨⟨⟨ds, gs, before, hw, _⟩, hx⟩, hz⟩ := hpre
  have hw' := DataW.Whole.of_heap (w' := w.forCall tape i) (by rfl) hw
  refine (contract (w.forCall tape i) w.heap.size i.args ds gs before hval hw' (hz.weights hw) (hX _ _ _ (by rfl) hx) hsh).mono fun e W' ⟨v, he, hp⟩ => ?_
  subst he
  exact ChangeSpec.post_blind hp
end

/- Arguments that are plans, rows of plans and tables, opened. -/
section
open Go.RowKit Go.ChangeShapes Go.WideShapes Go.ChangeAt
set_option maxRecDepth 100000

/-- a plan: what is done, a key, a value -/
structure Pl where
  d : Int
  k : ByteArray
  v : ByteArray
deriving DecidableEq
instance : Inhabited Pl := ⟨⟨0, ⟨#[]⟩, ⟨#[]⟩⟩⟩
def Pl.cells (t : Pl) : List Value := [.int .i64 t.d, .string t.k, .string t.v]
def plC (ts : List Pl) : List Value := ts.flatMap Pl.cells
theorem plC_length : ∀ ts : List Pl, (plC ts).length = ts.length * 3
  | [] => rfl
  | r :: rs => by
    have := plC_length rs
    simp only [plC, List.flatMap_cons, List.length_append, List.length_cons, Pl.cells, List.length_nil] at this ⊢
    omega
theorem plC_at : ∀ (rs : List Pl) (j : Nat) (h : j < rs.length), (plC rs)[j * 3]? = some (.int .i64 rs[j].d) ∧ (plC rs)[j * 3 + 1]? = some (.string rs[j].k) ∧ (plC rs)[j * 3 + 2]? = some (.string rs[j].v)
  | [], _, h => by simp at h
  | r :: rs, 0, _ => by simp [plC, Pl.cells]
  | r :: rs, j + 1, h => by
    have := plC_at rs j (by simpa using h)
    have e1 : (j + 1) * 3 = j * 3 + 3 := by omega
    simp only [plC, List.flatMap_cons] at this ⊢
    rw [e1]
    simpa [Pl.cells] using this
/-- a row of plans that is read -/
structure PR (w : World) (A : Option Addr) (n : Nat) (ts : List Pl) : Prop where
  len : ts.length = n
  rd : Rd w w.heap.size A (plC ts)
theorem PR.at_ {w : World} {A : Option Addr} {n : Nat} {ts : List Pl} (h : PR w A n ts) {j : Nat} (hj : j < ts.length) : ∃ ad, A = some ad ∧ ad.block < w.heap.size ∧ ∀ w', Below w.heap.size w w' → w'.cell? (ad.add (j * 3)) = some (.int .i64 ts[j].d) ∧ w'.cell? ⟨(ad.add (j * 3)).block, (ad.add (j * 3)).off + 1, none⟩ = some (.string ts[j].k) ∧ w'.cell? ⟨(ad.add (j * 3)).block, (ad.add (j * 3)).off + 2, none⟩ = some (.string ts[j].v) := by
  obtain ⟨ad, hA, hb, hc⟩ := h.rd.addr (by rw [plC_length]; omega)
  refine ⟨ad, hA, hb, fun w' hw => ⟨?_, ?_, ?_⟩⟩
  · rw [hw.cell (by rw [add_block]; exact hb)]; exact hc _ _ (plC_at ts j hj).1
  · have e1 : (⟨(ad.add (j * 3)).block, (ad.add (j * 3)).off + 1, none⟩ : Addr) = ad.add (j * 3 + 1) := by rw [← add_add]; rfl
    rw [e1, hw.cell (by rw [add_block]; exact hb)]; exact hc _ _ (plC_at ts j hj).2.1
  · have e1 : (⟨(ad.add (j * 3)).block, (ad.add (j * 3)).off + 2, none⟩ : Addr) = ad.add (j * 3 + 2) := by rw [← add_add]; rfl
    rw [e1, hw.cell (by rw [add_block]; exact hb)]; exact hc _ _ (plC_at ts j hj).2.2

section
variable {H : Type} {enc : TypeId × Value → H} {W : World}
theorem open_pair_cells {fuel : Nat} {cs : List Value} {x : DataW H × List MemPlace} (h : DataW.trod enc Tryd.prog W 0 (fun _ => true) true fuel 48 cs = some x) (hw : Light Tryd.prog 48 x.1) :
    ∃ t : Kv, cs = t.cells ∧ t.k.size ≤ 140737488351232 ∧ t.v.size ≤ 140737488351232 := by
  obtain ⟨xs, n, _, rfl, hl, hlen, hf⟩ := DataW.trod_struct Tryd.underlying48 h
  have h2 : Tryd.prog.cellsOf 48 = 2 := by kernel_rfl
  rw [h2] at hl
  match cs, hl with
  | [v0, v1], _ =>
    simp only [Array.size] at hlen
    match xs, hlen with
    | [y0, y1], _ =>
      have c2 : Tryd.prog.cellsOf 9 = 1 := by kernel_rfl
      have e0 : DataW.trod enc Tryd.prog W 0 (fun _ => true) true n 9 (([v0, v1].drop 0).take (Tryd.prog.cellsOf 9)) = some y0 := hf 0 _ rfl
      have e1 : DataW.trod enc Tryd.prog W 0 (fun _ => true) true n 9 (([v0, v1].drop 1).take (Tryd.prog.cellsOf 9)) = some y1 := hf 1 _ rfl
      have hw0 : Light Tryd.prog 9 y0.1 := hw.field (j := 0) Tryd.underlying48 rfl rfl
      have hw1 : Light Tryd.prog 9 y1.1 := hw.field (j := 1) Tryd.underlying48 rfl rfl
      rw [c2] at e0 e1
      obtain ⟨k, hk, hz, _⟩ := DataW.trod_string Tryd.underlying9 (show DataW.trod enc Tryd.prog W 0 (fun _ => true) true n 9 [v0] = some y0 from e0)
      obtain ⟨s, hs, hy, _⟩ := DataW.trod_string Tryd.underlying9 (show DataW.trod enc Tryd.prog W 0 (fun _ => true) true n 9 [v1] = some y1 from e1)
      subst hy hz
      have hb := hw0.string
      have hc := hw1.string
      simp only [List.cons.injEq, and_true] at hk hs
      subst hk hs
      exact ⟨⟨k, s⟩, rfl, by rw [text_len] at hb; exact hb, by rw [text_len] at hc; exact hc⟩

theorem open_pairs {r : Reach} {b0 : Nat} {v : Value} {d : DataW H} {ps : List MemPlace} (hval : Value.okWide Tryd.prog W r b0 24 v) (h : DataW.Trod enc Tryd.prog W 0 (fun _ => true) true 24 v d ps) (hw : Light Tryd.prog 24 d) :
    ∃ A l c ts, v = .slice A l c ∧ KR W A l ts ∧ (∀ t ∈ ts, t.k.size ≤ 140737488351232 ∧ t.v.size ≤ 140737488351232) ∧ l ≤ c ∧ c * 32 ≤ 140737488351232 := by
  obtain ⟨a, l, c, rfl⟩ := okWide_slice Tryd.underlying24 hval
  obtain ⟨fuel, hf⟩ := h
  obtain ⟨A, l', c', ts, hcs, hl, hr, hok, hlc, hm⟩ := open_rows (R := Kv) (cells := Kv.cells) (size := 2) (OK := fun t => t.k.size ≤ 140737488351232 ∧ t.v.size ≤ 140737488351232) Tryd.underlying24 (by kernel_rfl) (by kernel_rfl) (by omega)
    (fun n cs' x' h' hw' => open_pair_cells h' hw') hf hw
  have hcs' : [Value.slice a l c] = [Value.slice A l' c'] := hcs
  simp only [List.cons.injEq, Value.slice.injEq, and_true] at hcs'
  obtain ⟨rfl, rfl, rfl⟩ := hcs'
  exact ⟨a, l, c, ts, rfl, ⟨hl, hr⟩, hok, hlc, hm⟩

theorem open_plan_cells {fuel : Nat} {cs : List Value} {x : DataW H × List MemPlace} (h : DataW.trod enc Tryd.prog W 0 (fun _ => true) true fuel 23 cs = some x) (hw : Light Tryd.prog 23 x.1) :
    ∃ t : Pl, cs = t.cells ∧ t.k.size ≤ 140737488351232 ∧ t.v.size ≤ 140737488351232 := by
  obtain ⟨xs, n, _, rfl, hl, hlen, hf⟩ := DataW.trod_struct Tryd.underlying23 h
  have h3 : Tryd.prog.cellsOf 23 = 3 := by kernel_rfl
  rw [h3] at hl
  match cs, hl with
  | [v0, v1, v2], _ =>
    simp only [Array.size] at hlen
    match xs, hlen with
    | [y0, y1, y2], _ =>
      have c1 : Tryd.prog.cellsOf 3 = 1 := by kernel_rfl
      have c2 : Tryd.prog.cellsOf 9 = 1 := by kernel_rfl
      have e0 : DataW.trod enc Tryd.prog W 0 (fun _ => true) true n 3 (([v0, v1, v2].drop 0).take (Tryd.prog.cellsOf 3)) = some y0 := hf 0 _ rfl
      have e1 : DataW.trod enc Tryd.prog W 0 (fun _ => true) true n 9 (([v0, v1, v2].drop 1).take (Tryd.prog.cellsOf 9)) = some y1 := hf 1 _ rfl
      have e2 : DataW.trod enc Tryd.prog W 0 (fun _ => true) true n 9 (([v0, v1, v2].drop 2).take (Tryd.prog.cellsOf 9)) = some y2 := hf 2 _ rfl
      have hw1 : Light Tryd.prog 9 y1.1 := hw.field (j := 1) Tryd.underlying23 rfl rfl
      have hw2 : Light Tryd.prog 9 y2.1 := hw.field (j := 2) Tryd.underlying23 rfl rfl
      rw [c1] at e0
      rw [c2] at e1 e2
      obtain ⟨q, hq, _, _⟩ := DataW.trod_int (k := .i64) Tryd.underlying3 (show DataW.trod enc Tryd.prog W 0 (fun _ => true) true n 3 [v0] = some y0 from e0)
      obtain ⟨k, hk, hz, _⟩ := DataW.trod_string Tryd.underlying9 (show DataW.trod enc Tryd.prog W 0 (fun _ => true) true n 9 [v1] = some y1 from e1)
      obtain ⟨s, hs, hy, _⟩ := DataW.trod_string Tryd.underlying9 (show DataW.trod enc Tryd.prog W 0 (fun _ => true) true n 9 [v2] = some y2 from e2)
      subst hy hz
      have hb := hw1.string
      have hc := hw2.string
      simp only [List.cons.injEq, and_true] at hq hk hs
      subst hq hk hs
      exact ⟨⟨q, k, s⟩, rfl, by rw [text_len] at hb; exact hb, by rw [text_len] at hc; exact hc⟩

theorem open_plan {r : Reach} {b0 : Nat} {v : Value} {d : DataW H} {ps : List MemPlace} (hval : Value.okWide Tryd.prog W r b0 23 v) (h : DataW.Trod enc Tryd.prog W 0 (fun _ => true) true 23 v d ps) (hw : Light Tryd.prog 23 d) :
    ∃ t : Pl, v = .agg #[.int .i64 t.d, .string t.k, .string t.v] ∧ t.k.size ≤ 140737488351232 ∧ t.v.size ≤ 140737488351232 := by
  obtain ⟨cs, rfl, hsz⟩ := okWide_struct Tryd.underlying23 hval
  obtain ⟨fuel, hf⟩ := h
  obtain ⟨t, hq, hs⟩ := open_plan_cells hf hw
  refine ⟨t, ?_, hs⟩
  have : cs = t.cells.toArray := by
    have h2 : cs.toList = t.cells := hq
    rw [← h2]
  rw [this]
  rfl

theorem open_plans {r : Reach} {b0 : Nat} {v : Value} {d : DataW H} {ps : List MemPlace} (hval : Value.okWide Tryd.prog W r b0 40 v) (h : DataW.Trod enc Tryd.prog W 0 (fun _ => true) true 40 v d ps) (hw : Light Tryd.prog 40 d) :
    ∃ A l c ts, v = .slice A l c ∧ PR W A l ts ∧ (∀ t ∈ ts, t.k.size ≤ 140737488351232 ∧ t.v.size ≤ 140737488351232) ∧ l ≤ c ∧ c * 40 ≤ 140737488351232 := by
  obtain ⟨a, l, c, rfl⟩ := okWide_slice Tryd.underlying40 hval
  obtain ⟨fuel, hf⟩ := h
  obtain ⟨A, l', c', ts, hcs, hl, hr, hok, hlc, hm⟩ := open_rows (R := Pl) (cells := Pl.cells) (size := 3) (OK := fun t => t.k.size ≤ 140737488351232 ∧ t.v.size ≤ 140737488351232) Tryd.underlying40 (by kernel_rfl) (by kernel_rfl) (by omega)
    (fun n cs' x' h' hw' => open_plan_cells h' hw') hf hw
  have hcs' : [Value.slice a l c] = [Value.slice A l' c'] := hcs
  simp only [List.cons.injEq, Value.slice.injEq, and_true] at hcs'
  obtain ⟨rfl, rfl, rfl⟩ := hcs'
  exact ⟨a, l, c, ts, rfl, ⟨hl, hr⟩, hok, hlc, hm⟩
end
end

/- PlanKeeps: what was put is read, what a key is no other one changes, and tables stay tables: the walk. -/
section
open Go.RowKit
set_option maxRecDepth 100000

theorem writes_away {k v : ByteArray} {l : List Kv} (h : ∀ p ∈ l, p.k ≠ k) : writesF 4 k v l = (l, 0) := by
  have ht : thereF k l = false := by
    cases ht : thereF k l with
    | false => rfl
    | true =>
      obtain ⟨hp, e⟩ := there_lt ht
      exact absurd e (h _ (List.getElem_mem hp))
  unfold writesF
  rw [if_neg (by rw [ht]; simp), if_neg (by simp)]
theorem writes_none {d : Int} {k v : ByteArray} {l : List Kv} (h3 : d ≠ 3) (h4 : d ≠ 4) (h5 : d ≠ 5) : writesF d k v l = (l, 0) := by
  unfold writesF
  rw [if_neg (fun h => by rcases h with h | h; exact h3 h; exact h4 h.1), if_neg (fun h => h5 h.1)]

set_option maxHeartbeats 16000000 in
theorem planKeeps_walk (A : Option Addr) (n c : Nat) (ps : List Pl) (key : ByteArray) (w : World) (hr : PR w A n ps) (ht : ∀ t ∈ ps, t.k.size ≤ 140737488351232 ∧ t.v.size ≤ 140737488351232) (_ : n ≤ c) (_ : c * 40 ≤ 140737488351232) (_ : key.size ≤ maxLen) (hL : Lw w) :
    Calls Tryd.prog 4 #[.slice A n c, .string key] w fun e w' => e = .returned (.bool true) ∧ Below w.heap.size w w' := by
  have HA0 := Lib.hid (awake6 w hL)
  have HP := Lib.hid hr
  have HPT := Lib.hid ht
  have HPL := Lib.hid hr.len
  clear hr ht
  go_enter Tryd.func4, Tryd.ntmps4
  go_wp2_with fail
  refine HA0.out.mono ?_
  rintro e w1 ⟨rfl, k1⟩
  clear HA0
  by_cases h60 : (60 : Int) < (n : Int)
  · go_wp2_with fail
    go_ret
    exact ⟨rfl, k1⟩
  have hn60 : n ≤ 60 := by omega
  clear h60
  go_wp2_with fail
  go_loopw [5, 6, 7, 20] (fun t s f i wr => ∃ (q z : Nat) (B : Option Addr) (e : Nat) (tab : List Kv) (val : ByteArray) (b : Bool), q ≤ n ∧ z ≤ q ∧ z ≤ e ∧ i = .int .i64 q ∧ t = .slice B z e ∧ s = .string val ∧ f = .bool b ∧ Hid (KR wr B z tab) ∧ Hid (Srt tab) ∧ Hid ((b = true → (⟨key, val⟩ : Kv) ∈ tab) ∧ (b = false → ∀ p ∈ tab, p.k ≠ key)) ∧ Below w.heap.size w wr) (fun _ _ _ i _ => n - (intOf i).toNat)
  case atStart => exact ⟨0, 0, none, 0, [], ⟨#[]⟩, false, Nat.zero_le _, Nat.le_refl _, Nat.le_refl _, rfl, rfl, rfl, rfl, Lib.hid (KR.nil _), Lib.hid (by simp [Srt]), Lib.hid ⟨(fun h => by cases h), (fun _ p hp => by cases hp)⟩, k1⟩
  case round =>
    obtain ⟨q, z, B, e, tab, val, b, hq, hz, hze, rfl, rfl, rfl, rfl, HK, HS, HI, K0⟩ := hrel
    by_cases hlt : q < n
    · have hkl : q < ps.length := by rw [HPL.out]; exact hlt
      obtain ⟨ad, rfl, had, hcc⟩ := HP.out.at_ hkl
      obtain ⟨x0, x1, x2⟩ := hcc _ K0
      obtain ⟨hz1, hz2⟩ := HPT.out _ (List.getElem_mem hkl)
      clear hcc
      generalize ps[q].d = d at *
      generalize ps[q].k = k at *
      generalize ps[q].v = v at *
      have kb := kp_new wr (.cells #[.int .i64 d, .string k, .string v] 23)
      by_cases hkv : (1000 : Int) < (k.size : Int) + (v.size : Int)
      · go_wp2_with fail
        go_ret
        exact ⟨rfl, kp_trans K0 kb⟩
      have hwl := writes_len d k v tab
      have hww := writes_ok d k v B z e tab _ (HK.out.next kb) hze HS.out (by omega)
      unfold WrTo at hww
      have HS5' := Lib.hid (writes_srt d k v HS.out)
      obtain ⟨T, HT1⟩ : ∃ T, Hid ((writesF d k v tab).1 = T) := ⟨_, Lib.hid rfl⟩
      obtain ⟨N, HT2⟩ : ∃ N, Hid ((writesF d k v tab).2 = N) := ⟨_, Lib.hid rfl⟩
      rw [HT1.out, HT2.out] at hwl hww
      have HS5 : Hid (Srt T) := Lib.hid (by rw [← HT1.out]; exact HS5'.out)
      have HWW := Lib.hid hww
      have HWL := Lib.hid hwl
      have hkl2 := HK.out.len
      have HKL := Lib.hid hkl2
      clear hww hwl HS5' HT2 hkl2
      have hR : Hid (∀ u, Below (wr.alloc (.cells #[.int .i64 d, .string k, .string v] 23)).heap.size (wr.alloc (.cells #[.int .i64 d, .string k, .string v] 23)) u → _) := Lib.hid (fun u hu => box3 hu)
      go_wp2_with fail
      refine HWW.out.mono ?_
      rintro e5 w5 ⟨A5, n5, c5, rfl, ho5, k5⟩
      obtain ⟨y0, y1, y2⟩ := hR.out _ k5
      have K5 := kp_trans K0 (kp_trans kb k5)
      have HK5 := Lib.hid ho5.kr
      have hc5 := ho5.cap
      have hl5 := ho5.len
      have hcnt : (N = 0 ∧ n5 = z) ∨ (N = 1 ∧ n5 ≤ z + 1 ∧ z ≤ n5 + 1) := by
        have := HKL.out
        rcases HWL.out with ⟨h1, h2⟩ | ⟨h1, h2, h3⟩
        · exact .inl ⟨h1, by omega⟩
        · exact .inr ⟨h1, by omega, by omega⟩
      clear HWW HWL HKL ho5 hl5 k5 kb hR x0 x1 x2 hkv hz1 hz2 HK
      by_cases hkey : k = key
      · subst hkey
        have hq1 : (k.toList == k.toList) = true := by simp
        by_cases h3 : d = 3
        · subst h3
          have hin : Hid ((⟨k, v⟩ : Kv) ∈ T) := Lib.hid (by rw [← HT1.out]; exact writes_put (.inl rfl))
          clear HT1 HI HS
          rcases hcnt with ⟨hN, hn5⟩ | ⟨hN, hn5, hn5b⟩
          · subst hN
            have hz5 : n5 = z := by omega
            subst hz5
            go_wp2_with fail
            refine (pairs_ok A5 n5 c5 T w5 HK5.out (by omega)).mono ?_
            rintro e w6 ⟨A6, c6, rfl, h6, k6⟩
            go_wp2_with fail
            refine (table_ok A6 n5 c6 T w6 h6 (by omega) true (Lib.hid ((tab_srt T).2 HS5.out))).mono ?_
            rintro e w7 ⟨rfl, m7, hw7⟩
            have k7 : Below w6.heap.size w6 w7 := by rw [hw7]; exact kp_drewN _ _
            have k57 := kp_trans k6 k7
            have K7 := kp_trans K5 k57
            clear hw7 k7 k6 h6
            go_wp2_with fail
            refine (reads_ok 1 k ⟨#[]⟩ A5 n5 c5 T w7 (HK5.out.next k57) hc5 HS5.out (by omega)).mono ?_
            rintro e w8 ⟨A8, n8, c8, rfl, h8, k8⟩
            have k58 := kp_trans k57 k8
            have K8 := kp_trans K7 k8
            rw [reads_mem HS5.out hin.out] at h8
            obtain rfl : n8 = 1 := h8.len.symm
            have kx := kp_new w8 (.cells #[.string v] 9)
            go_wp2_with fail
            refine (texts6_ok A8 _ 1 1 c8 1 _ _ _ (h8.next kx) (XR.new w8 9 [v]) (by omega) (by omega) true (Lib.hid (by simp))).mono ?_
            rintro e w9 ⟨rfl, m9, hw9⟩
            have k9 : Below w8.heap.size w8 w9 := by rw [hw9]; exact kx.trans ((kp_drewN _ _).mono kx.size)
            have k59 := kp_trans k58 k9
            clear hw9 kx
            go_wp2_with fail
            go_roundw
            case rel => exact ⟨q + 1, n5, A5, c5, T, v, true, by omega, by omega, hc5, by go_num, rfl, rfl, rfl, Lib.hid (HK5.out.next k59), HS5, Lib.hid ⟨fun _ => hin.out, (fun h => by cases h)⟩, kp_trans K8 k9⟩
            case measure => simp [intOf]; omega
          · subst hN
            go_wp2_with fail
            refine (pairs_ok A5 n5 c5 T w5 HK5.out (by omega)).mono ?_
            rintro e w6 ⟨A6, c6, rfl, h6, k6⟩
            go_wp2_with fail
            refine (table_ok A6 n5 c6 T w6 h6 (by omega) true (Lib.hid ((tab_srt T).2 HS5.out))).mono ?_
            rintro e w7 ⟨rfl, m7, hw7⟩
            have k7 : Below w6.heap.size w6 w7 := by rw [hw7]; exact kp_drewN _ _
            have k57 := kp_trans k6 k7
            have K7 := kp_trans K5 k57
            clear hw7 k7 k6 h6
            go_wp2_with fail
            refine (reads_ok 1 k ⟨#[]⟩ A5 n5 c5 T w7 (HK5.out.next k57) hc5 HS5.out (by omega)).mono ?_
            rintro e w8 ⟨A8, n8, c8, rfl, h8, k8⟩
            have k58 := kp_trans k57 k8
            have K8 := kp_trans K7 k8
            rw [reads_mem HS5.out hin.out] at h8
            obtain rfl : n8 = 1 := h8.len.symm
            have kx := kp_new w8 (.cells #[.string v] 9)
            go_wp2_with fail
            refine (texts6_ok A8 _ 1 1 c8 1 _ _ _ (h8.next kx) (XR.new w8 9 [v]) (by omega) (by omega) true (Lib.hid (by simp))).mono ?_
            rintro e w9 ⟨rfl, m9, hw9⟩
            have k9 : Below w8.heap.size w8 w9 := by rw [hw9]; exact kx.trans ((kp_drewN _ _).mono kx.size)
            have k59 := kp_trans k58 k9
            clear hw9 kx
            go_wp2_with fail
            go_roundw
            case rel => exact ⟨q + 1, n5, A5, c5, T, v, true, by omega, by omega, hc5, by go_num, rfl, rfl, rfl, Lib.hid (HK5.out.next k59), HS5, Lib.hid ⟨fun _ => hin.out, (fun h => by cases h)⟩, kp_trans K8 k9⟩
            case measure => simp [intOf]; omega
        have n3 : (d == 3) = false := by simpa using h3
        by_cases h4 : d = 4
        · subst h4
          cases b with
          | true =>
            have hin : Hid ((⟨k, v⟩ : Kv) ∈ T) := Lib.hid (by rw [← HT1.out]; exact writes_put (.inr ⟨rfl, there_mem HS.out _ (HI.out.1 rfl) rfl⟩))
            clear HT1 HI HS h3 n3
            rcases hcnt with ⟨hN, hn5⟩ | ⟨hN, hn5, hn5b⟩
            · subst hN
              have hz5 : n5 = z := by omega
              subst hz5
              go_wp2_with fail
              refine (pairs_ok A5 n5 c5 T w5 HK5.out (by omega)).mono ?_
              rintro e w6 ⟨A6, c6, rfl, h6, k6⟩
              go_wp2_with fail
              refine (table_ok A6 n5 c6 T w6 h6 (by omega) true (Lib.hid ((tab_srt T).2 HS5.out))).mono ?_
              rintro e w7 ⟨rfl, m7, hw7⟩
              have k7 : Below w6.heap.size w6 w7 := by rw [hw7]; exact kp_drewN _ _
              have k57 := kp_trans k6 k7
              have K7 := kp_trans K5 k57
              clear hw7 k7 k6 h6
              go_wp2_with fail
              refine (reads_ok 1 k ⟨#[]⟩ A5 n5 c5 T w7 (HK5.out.next k57) hc5 HS5.out (by omega)).mono ?_
              rintro e w8 ⟨A8, n8, c8, rfl, h8, k8⟩
              have k58 := kp_trans k57 k8
              have K8 := kp_trans K7 k8
              rw [reads_mem HS5.out hin.out] at h8
              obtain rfl : n8 = 1 := h8.len.symm
              have kx := kp_new w8 (.cells #[.string v] 9)
              go_wp2_with fail
              refine (texts6_ok A8 _ 1 1 c8 1 _ _ _ (h8.next kx) (XR.new w8 9 [v]) (by omega) (by omega) true (Lib.hid (by simp))).mono ?_
              rintro e w9 ⟨rfl, m9, hw9⟩
              have k9 : Below w8.heap.size w8 w9 := by rw [hw9]; exact kx.trans ((kp_drewN _ _).mono kx.size)
              have k59 := kp_trans k58 k9
              clear hw9 kx
              go_wp2_with fail
              go_roundw
              case rel => exact ⟨q + 1, n5, A5, c5, T, v, true, by omega, by omega, hc5, by go_num, rfl, rfl, rfl, Lib.hid (HK5.out.next k59), HS5, Lib.hid ⟨fun _ => hin.out, (fun h => by cases h)⟩, kp_trans K8 k9⟩
              case measure => simp [intOf]; omega
            · subst hN
              go_wp2_with fail
              refine (pairs_ok A5 n5 c5 T w5 HK5.out (by omega)).mono ?_
              rintro e w6 ⟨A6, c6, rfl, h6, k6⟩
              go_wp2_with fail
              refine (table_ok A6 n5 c6 T w6 h6 (by omega) true (Lib.hid ((tab_srt T).2 HS5.out))).mono ?_
              rintro e w7 ⟨rfl, m7, hw7⟩
              have k7 : Below w6.heap.size w6 w7 := by rw [hw7]; exact kp_drewN _ _
              have k57 := kp_trans k6 k7
              have K7 := kp_trans K5 k57
              clear hw7 k7 k6 h6
              go_wp2_with fail
              refine (reads_ok 1 k ⟨#[]⟩ A5 n5 c5 T w7 (HK5.out.next k57) hc5 HS5.out (by omega)).mono ?_
              rintro e w8 ⟨A8, n8, c8, rfl, h8, k8⟩
              have k58 := kp_trans k57 k8
              have K8 := kp_trans K7 k8
              rw [reads_mem HS5.out hin.out] at h8
              obtain rfl : n8 = 1 := h8.len.symm
              have kx := kp_new w8 (.cells #[.string v] 9)
              go_wp2_with fail
              refine (texts6_ok A8 _ 1 1 c8 1 _ _ _ (h8.next kx) (XR.new w8 9 [v]) (by omega) (by omega) true (Lib.hid (by simp))).mono ?_
              rintro e w9 ⟨rfl, m9, hw9⟩
              have k9 : Below w8.heap.size w8 w9 := by rw [hw9]; exact kx.trans ((kp_drewN _ _).mono kx.size)
              have k59 := kp_trans k58 k9
              clear hw9 kx
              go_wp2_with fail
              go_roundw
              case rel => exact ⟨q + 1, n5, A5, c5, T, v, true, by omega, by omega, hc5, by go_num, rfl, rfl, rfl, Lib.hid (HK5.out.next k59), HS5, Lib.hid ⟨fun _ => hin.out, (fun h => by cases h)⟩, kp_trans K8 k9⟩
              case measure => simp [intOf]; omega
          | false =>
            have hin : Hid (∀ p ∈ T, p.k ≠ k) := Lib.hid (by rw [← HT1.out]; rw [writes_away (HI.out.2 rfl)]; exact HI.out.2 rfl)
            clear HT1 HI HS h3 n3
            rcases hcnt with ⟨hN, hn5⟩ | ⟨hN, hn5, hn5b⟩
            · subst hN
              have hz5 : n5 = z := by omega
              subst hz5
              go_wp2_with fail
              refine (pairs_ok A5 n5 c5 T w5 HK5.out (by omega)).mono ?_
              rintro e w6 ⟨A6, c6, rfl, h6, k6⟩
              go_wp2_with fail
              refine (table_ok A6 n5 c6 T w6 h6 (by omega) true (Lib.hid ((tab_srt T).2 HS5.out))).mono ?_
              rintro e w7 ⟨rfl, m7, hw7⟩
              have k7 : Below w6.heap.size w6 w7 := by rw [hw7]; exact kp_drewN _ _
              have k57 := kp_trans k6 k7
              have K7 := kp_trans K5 k57
              clear hw7 k7 k6 h6
              go_wp2_with fail
              refine (reads_ok 1 k ⟨#[]⟩ A5 n5 c5 T w7 (HK5.out.next k57) hc5 HS5.out (by omega)).mono ?_
              rintro e w8 ⟨A8, n8, c8, rfl, h8, k8⟩
              have k58 := kp_trans k57 k8
              have K8 := kp_trans K7 k8
              rw [reads_none hin.out] at h8
              obtain rfl : n8 = 0 := h8.len.symm
              go_wp2_with fail
              go_roundw
              case rel => exact ⟨q + 1, n5, A5, c5, T, val, false, by omega, by omega, hc5, by go_num, rfl, rfl, rfl, Lib.hid (HK5.out.next k58), HS5, Lib.hid ⟨(fun h => by cases h), fun _ => hin.out⟩, K8⟩
              case measure => simp [intOf]; omega
            · subst hN
              go_wp2_with fail
              refine (pairs_ok A5 n5 c5 T w5 HK5.out (by omega)).mono ?_
              rintro e w6 ⟨A6, c6, rfl, h6, k6⟩
              go_wp2_with fail
              refine (table_ok A6 n5 c6 T w6 h6 (by omega) true (Lib.hid ((tab_srt T).2 HS5.out))).mono ?_
              rintro e w7 ⟨rfl, m7, hw7⟩
              have k7 : Below w6.heap.size w6 w7 := by rw [hw7]; exact kp_drewN _ _
              have k57 := kp_trans k6 k7
              have K7 := kp_trans K5 k57
              clear hw7 k7 k6 h6
              go_wp2_with fail
              refine (reads_ok 1 k ⟨#[]⟩ A5 n5 c5 T w7 (HK5.out.next k57) hc5 HS5.out (by omega)).mono ?_
              rintro e w8 ⟨A8, n8, c8, rfl, h8, k8⟩
              have k58 := kp_trans k57 k8
              have K8 := kp_trans K7 k8
              rw [reads_none hin.out] at h8
              obtain rfl : n8 = 0 := h8.len.symm
              go_wp2_with fail
              go_roundw
              case rel => exact ⟨q + 1, n5, A5, c5, T, val, false, by omega, by omega, hc5, by go_num, rfl, rfl, rfl, Lib.hid (HK5.out.next k58), HS5, Lib.hid ⟨(fun h => by cases h), fun _ => hin.out⟩, K8⟩
              case measure => simp [intOf]; omega
        have n4 : (d == 4) = false := by simpa using h4
        by_cases h5 : d = 5
        · subst h5
          have hin : Hid (∀ p ∈ T, p.k ≠ k) := Lib.hid (by rw [← HT1.out]; exact fun p hp => writes_gone HS.out p hp)
          clear HT1 HI HS h3 n3 h4 n4
          rcases hcnt with ⟨hN, hn5⟩ | ⟨hN, hn5, hn5b⟩
          · subst hN
            have hz5 : n5 = z := by omega
            subst hz5
            go_wp2_with fail
            refine (pairs_ok A5 n5 c5 T w5 HK5.out (by omega)).mono ?_
            rintro e w6 ⟨A6, c6, rfl, h6, k6⟩
            go_wp2_with fail
            refine (table_ok A6 n5 c6 T w6 h6 (by omega) true (Lib.hid ((tab_srt T).2 HS5.out))).mono ?_
            rintro e w7 ⟨rfl, m7, hw7⟩
            have k7 : Below w6.heap.size w6 w7 := by rw [hw7]; exact kp_drewN _ _
            have k57 := kp_trans k6 k7
            have K7 := kp_trans K5 k57
            clear hw7 k7 k6 h6
            go_wp2_with fail
            refine (reads_ok 1 k ⟨#[]⟩ A5 n5 c5 T w7 (HK5.out.next k57) hc5 HS5.out (by omega)).mono ?_
            rintro e w8 ⟨A8, n8, c8, rfl, h8, k8⟩
            have k58 := kp_trans k57 k8
            have K8 := kp_trans K7 k8
            rw [reads_none hin.out] at h8
            obtain rfl : n8 = 0 := h8.len.symm
            go_wp2_with fail
            go_roundw
            case rel => exact ⟨q + 1, n5, A5, c5, T, ⟨#[]⟩, false, by omega, by omega, hc5, by go_num, rfl, rfl, rfl, Lib.hid (HK5.out.next k58), HS5, Lib.hid ⟨(fun h => by cases h), fun _ => hin.out⟩, K8⟩
            case measure => simp [intOf]; omega
          · subst hN
            go_wp2_with fail
            refine (pairs_ok A5 n5 c5 T w5 HK5.out (by omega)).mono ?_
            rintro e w6 ⟨A6, c6, rfl, h6, k6⟩
            go_wp2_with fail
            refine (table_ok A6 n5 c6 T w6 h6 (by omega) true (Lib.hid ((tab_srt T).2 HS5.out))).mono ?_
            rintro e w7 ⟨rfl, m7, hw7⟩
            have k7 : Below w6.heap.size w6 w7 := by rw [hw7]; exact kp_drewN _ _
            have k57 := kp_trans k6 k7
            have K7 := kp_trans K5 k57
            clear hw7 k7 k6 h6
            go_wp2_with fail
            refine (reads_ok 1 k ⟨#[]⟩ A5 n5 c5 T w7 (HK5.out.next k57) hc5 HS5.out (by omega)).mono ?_
            rintro e w8 ⟨A8, n8, c8, rfl, h8, k8⟩
            have k58 := kp_trans k57 k8
            have K8 := kp_trans K7 k8
            rw [reads_none hin.out] at h8
            obtain rfl : n8 = 0 := h8.len.symm
            go_wp2_with fail
            go_roundw
            case rel => exact ⟨q + 1, n5, A5, c5, T, ⟨#[]⟩, false, by omega, by omega, hc5, by go_num, rfl, rfl, rfl, Lib.hid (HK5.out.next k58), HS5, Lib.hid ⟨(fun h => by cases h), fun _ => hin.out⟩, K8⟩
            case measure => simp [intOf]; omega
        have n5' : (d == 5) = false := by simpa using h5
        cases b with
        | true =>
          have hin : Hid ((⟨k, val⟩ : Kv) ∈ T) := Lib.hid (by rw [← HT1.out]; rw [writes_none h3 h4 h5]; exact HI.out.1 rfl)
          clear HT1 HI HS h3 h4 h5
          rcases hcnt with ⟨hN, hn5⟩ | ⟨hN, hn5, hn5b⟩
          · subst hN
            have hz5 : n5 = z := by omega
            subst hz5
            go_wp2_with fail
            refine (pairs_ok A5 n5 c5 T w5 HK5.out (by omega)).mono ?_
            rintro e w6 ⟨A6, c6, rfl, h6, k6⟩
            go_wp2_with fail
            refine (table_ok A6 n5 c6 T w6 h6 (by omega) true (Lib.hid ((tab_srt T).2 HS5.out))).mono ?_
            rintro e w7 ⟨rfl, m7, hw7⟩
            have k7 : Below w6.heap.size w6 w7 := by rw [hw7]; exact kp_drewN _ _
            have k57 := kp_trans k6 k7
            have K7 := kp_trans K5 k57
            clear hw7 k7 k6 h6
            go_wp2_with fail
            refine (reads_ok 1 k ⟨#[]⟩ A5 n5 c5 T w7 (HK5.out.next k57) hc5 HS5.out (by omega)).mono ?_
            rintro e w8 ⟨A8, n8, c8, rfl, h8, k8⟩
            have k58 := kp_trans k57 k8
            have K8 := kp_trans K7 k8
            rw [reads_mem HS5.out hin.out] at h8
            obtain rfl : n8 = 1 := h8.len.symm
            have kx := kp_new w8 (.cells #[.string val] 9)
            go_wp2_with fail
            refine (texts6_ok A8 _ 1 1 c8 1 _ _ _ (h8.next kx) (XR.new w8 9 [val]) (by omega) (by omega) true (Lib.hid (by simp))).mono ?_
            rintro e w9 ⟨rfl, m9, hw9⟩
            have k9 : Below w8.heap.size w8 w9 := by rw [hw9]; exact kx.trans ((kp_drewN _ _).mono kx.size)
            have k59 := kp_trans k58 k9
            clear hw9 kx
            go_wp2_with fail
            go_roundw
            case rel => exact ⟨q + 1, n5, A5, c5, T, val, true, by omega, by omega, hc5, by go_num, rfl, rfl, rfl, Lib.hid (HK5.out.next k59), HS5, Lib.hid ⟨fun _ => hin.out, (fun h => by cases h)⟩, kp_trans K8 k9⟩
            case measure => simp [intOf]; omega
          · subst hN
            go_wp2_with fail
            refine (pairs_ok A5 n5 c5 T w5 HK5.out (by omega)).mono ?_
            rintro e w6 ⟨A6, c6, rfl, h6, k6⟩
            go_wp2_with fail
            refine (table_ok A6 n5 c6 T w6 h6 (by omega) true (Lib.hid ((tab_srt T).2 HS5.out))).mono ?_
            rintro e w7 ⟨rfl, m7, hw7⟩
            have k7 : Below w6.heap.size w6 w7 := by rw [hw7]; exact kp_drewN _ _
            have k57 := kp_trans k6 k7
            have K7 := kp_trans K5 k57
            clear hw7 k7 k6 h6
            go_wp2_with fail
            refine (reads_ok 1 k ⟨#[]⟩ A5 n5 c5 T w7 (HK5.out.next k57) hc5 HS5.out (by omega)).mono ?_
            rintro e w8 ⟨A8, n8, c8, rfl, h8, k8⟩
            have k58 := kp_trans k57 k8
            have K8 := kp_trans K7 k8
            rw [reads_mem HS5.out hin.out] at h8
            obtain rfl : n8 = 1 := h8.len.symm
            have kx := kp_new w8 (.cells #[.string val] 9)
            go_wp2_with fail
            refine (texts6_ok A8 _ 1 1 c8 1 _ _ _ (h8.next kx) (XR.new w8 9 [val]) (by omega) (by omega) true (Lib.hid (by simp))).mono ?_
            rintro e w9 ⟨rfl, m9, hw9⟩
            have k9 : Below w8.heap.size w8 w9 := by rw [hw9]; exact kx.trans ((kp_drewN _ _).mono kx.size)
            have k59 := kp_trans k58 k9
            clear hw9 kx
            go_wp2_with fail
            go_roundw
            case rel => exact ⟨q + 1, n5, A5, c5, T, val, true, by omega, by omega, hc5, by go_num, rfl, rfl, rfl, Lib.hid (HK5.out.next k59), HS5, Lib.hid ⟨fun _ => hin.out, (fun h => by cases h)⟩, kp_trans K8 k9⟩
            case measure => simp [intOf]; omega
        | false =>
          have hin : Hid (∀ p ∈ T, p.k ≠ k) := Lib.hid (by rw [← HT1.out]; rw [writes_none h3 h4 h5]; exact HI.out.2 rfl)
          clear HT1 HI HS h3 h4 h5
          rcases hcnt with ⟨hN, hn5⟩ | ⟨hN, hn5, hn5b⟩
          · subst hN
            have hz5 : n5 = z := by omega
            subst hz5
            go_wp2_with fail
            refine (pairs_ok A5 n5 c5 T w5 HK5.out (by omega)).mono ?_
            rintro e w6 ⟨A6, c6, rfl, h6, k6⟩
            go_wp2_with fail
            refine (table_ok A6 n5 c6 T w6 h6 (by omega) true (Lib.hid ((tab_srt T).2 HS5.out))).mono ?_
            rintro e w7 ⟨rfl, m7, hw7⟩
            have k7 : Below w6.heap.size w6 w7 := by rw [hw7]; exact kp_drewN _ _
            have k57 := kp_trans k6 k7
            have K7 := kp_trans K5 k57
            clear hw7 k7 k6 h6
            go_wp2_with fail
            refine (reads_ok 1 k ⟨#[]⟩ A5 n5 c5 T w7 (HK5.out.next k57) hc5 HS5.out (by omega)).mono ?_
            rintro e w8 ⟨A8, n8, c8, rfl, h8, k8⟩
            have k58 := kp_trans k57 k8
            have K8 := kp_trans K7 k8
            rw [reads_none hin.out] at h8
            obtain rfl : n8 = 0 := h8.len.symm
            go_wp2_with fail
            go_roundw
            case rel => exact ⟨q + 1, n5, A5, c5, T, val, false, by omega, by omega, hc5, by go_num, rfl, rfl, rfl, Lib.hid (HK5.out.next k58), HS5, Lib.hid ⟨(fun h => by cases h), fun _ => hin.out⟩, K8⟩
            case measure => simp [intOf]; omega
          · subst hN
            go_wp2_with fail
            refine (pairs_ok A5 n5 c5 T w5 HK5.out (by omega)).mono ?_
            rintro e w6 ⟨A6, c6, rfl, h6, k6⟩
            go_wp2_with fail
            refine (table_ok A6 n5 c6 T w6 h6 (by omega) true (Lib.hid ((tab_srt T).2 HS5.out))).mono ?_
            rintro e w7 ⟨rfl, m7, hw7⟩
            have k7 : Below w6.heap.size w6 w7 := by rw [hw7]; exact kp_drewN _ _
            have k57 := kp_trans k6 k7
            have K7 := kp_trans K5 k57
            clear hw7 k7 k6 h6
            go_wp2_with fail
            refine (reads_ok 1 k ⟨#[]⟩ A5 n5 c5 T w7 (HK5.out.next k57) hc5 HS5.out (by omega)).mono ?_
            rintro e w8 ⟨A8, n8, c8, rfl, h8, k8⟩
            have k58 := kp_trans k57 k8
            have K8 := kp_trans K7 k8
            rw [reads_none hin.out] at h8
            obtain rfl : n8 = 0 := h8.len.symm
            go_wp2_with fail
            go_roundw
            case rel => exact ⟨q + 1, n5, A5, c5, T, val, false, by omega, by omega, hc5, by go_num, rfl, rfl, rfl, Lib.hid (HK5.out.next k58), HS5, Lib.hid ⟨(fun h => by cases h), fun _ => hin.out⟩, K8⟩
            case measure => simp [intOf]; omega
      · have hq1 : (k.toList == key.toList) = false := by
          simp only [beq_eq_false_iff_ne, ne_eq]
          exact fun h => hkey (bytes_ext h)
        cases b with
        | true =>
          have hin : Hid ((⟨key, val⟩ : Kv) ∈ T) := Lib.hid (by rw [← HT1.out]; exact (mem_writes d k v _ (fun e => hkey e.symm)).2 (HI.out.1 rfl))
          clear HT1 HI HS hkey
          rcases hcnt with ⟨hN, hn5⟩ | ⟨hN, hn5, hn5b⟩
          · subst hN
            have hz5 : n5 = z := by omega
            subst hz5
            go_wp2_with fail
            refine (pairs_ok A5 n5 c5 T w5 HK5.out (by omega)).mono ?_
            rintro e w6 ⟨A6, c6, rfl, h6, k6⟩
            go_wp2_with fail
            refine (table_ok A6 n5 c6 T w6 h6 (by omega) true (Lib.hid ((tab_srt T).2 HS5.out))).mono ?_
            rintro e w7 ⟨rfl, m7, hw7⟩
            have k7 : Below w6.heap.size w6 w7 := by rw [hw7]; exact kp_drewN _ _
            have k57 := kp_trans k6 k7
            have K7 := kp_trans K5 k57
            clear hw7 k7 k6 h6
            go_wp2_with fail
            refine (reads_ok 1 key ⟨#[]⟩ A5 n5 c5 T w7 (HK5.out.next k57) hc5 HS5.out (by omega)).mono ?_
            rintro e w8 ⟨A8, n8, c8, rfl, h8, k8⟩
            have k58 := kp_trans k57 k8
            have K8 := kp_trans K7 k8
            rw [reads_mem HS5.out hin.out] at h8
            obtain rfl : n8 = 1 := h8.len.symm
            have kx := kp_new w8 (.cells #[.string val] 9)
            go_wp2_with fail
            refine (texts6_ok A8 _ 1 1 c8 1 _ _ _ (h8.next kx) (XR.new w8 9 [val]) (by omega) (by omega) true (Lib.hid (by simp))).mono ?_
            rintro e w9 ⟨rfl, m9, hw9⟩
            have k9 : Below w8.heap.size w8 w9 := by rw [hw9]; exact kx.trans ((kp_drewN _ _).mono kx.size)
            have k59 := kp_trans k58 k9
            clear hw9 kx
            go_wp2_with fail
            go_roundw
            case rel => exact ⟨q + 1, n5, A5, c5, T, val, true, by omega, by omega, hc5, by go_num, rfl, rfl, rfl, Lib.hid (HK5.out.next k59), HS5, Lib.hid ⟨fun _ => hin.out, (fun h => by cases h)⟩, kp_trans K8 k9⟩
            case measure => simp [intOf]; omega
          · subst hN
            go_wp2_with fail
            refine (pairs_ok A5 n5 c5 T w5 HK5.out (by omega)).mono ?_
            rintro e w6 ⟨A6, c6, rfl, h6, k6⟩
            go_wp2_with fail
            refine (table_ok A6 n5 c6 T w6 h6 (by omega) true (Lib.hid ((tab_srt T).2 HS5.out))).mono ?_
            rintro e w7 ⟨rfl, m7, hw7⟩
            have k7 : Below w6.heap.size w6 w7 := by rw [hw7]; exact kp_drewN _ _
            have k57 := kp_trans k6 k7
            have K7 := kp_trans K5 k57
            clear hw7 k7 k6 h6
            go_wp2_with fail
            refine (reads_ok 1 key ⟨#[]⟩ A5 n5 c5 T w7 (HK5.out.next k57) hc5 HS5.out (by omega)).mono ?_
            rintro e w8 ⟨A8, n8, c8, rfl, h8, k8⟩
            have k58 := kp_trans k57 k8
            have K8 := kp_trans K7 k8
            rw [reads_mem HS5.out hin.out] at h8
            obtain rfl : n8 = 1 := h8.len.symm
            have kx := kp_new w8 (.cells #[.string val] 9)
            go_wp2_with fail
            refine (texts6_ok A8 _ 1 1 c8 1 _ _ _ (h8.next kx) (XR.new w8 9 [val]) (by omega) (by omega) true (Lib.hid (by simp))).mono ?_
            rintro e w9 ⟨rfl, m9, hw9⟩
            have k9 : Below w8.heap.size w8 w9 := by rw [hw9]; exact kx.trans ((kp_drewN _ _).mono kx.size)
            have k59 := kp_trans k58 k9
            clear hw9 kx
            go_wp2_with fail
            go_roundw
            case rel => exact ⟨q + 1, n5, A5, c5, T, val, true, by omega, by omega, hc5, by go_num, rfl, rfl, rfl, Lib.hid (HK5.out.next k59), HS5, Lib.hid ⟨fun _ => hin.out, (fun h => by cases h)⟩, kp_trans K8 k9⟩
            case measure => simp [intOf]; omega
        | false =>
          have hin : Hid (∀ p ∈ T, p.k ≠ key) := Lib.hid (by rw [← HT1.out]; exact keys_other d (fun e => hkey e.symm) (HI.out.2 rfl))
          clear HT1 HI HS hkey
          rcases hcnt with ⟨hN, hn5⟩ | ⟨hN, hn5, hn5b⟩
          · subst hN
            have hz5 : n5 = z := by omega
            subst hz5
            go_wp2_with fail
            refine (pairs_ok A5 n5 c5 T w5 HK5.out (by omega)).mono ?_
            rintro e w6 ⟨A6, c6, rfl, h6, k6⟩
            go_wp2_with fail
            refine (table_ok A6 n5 c6 T w6 h6 (by omega) true (Lib.hid ((tab_srt T).2 HS5.out))).mono ?_
            rintro e w7 ⟨rfl, m7, hw7⟩
            have k7 : Below w6.heap.size w6 w7 := by rw [hw7]; exact kp_drewN _ _
            have k57 := kp_trans k6 k7
            have K7 := kp_trans K5 k57
            clear hw7 k7 k6 h6
            go_wp2_with fail
            refine (reads_ok 1 key ⟨#[]⟩ A5 n5 c5 T w7 (HK5.out.next k57) hc5 HS5.out (by omega)).mono ?_
            rintro e w8 ⟨A8, n8, c8, rfl, h8, k8⟩
            have k58 := kp_trans k57 k8
            have K8 := kp_trans K7 k8
            rw [reads_none hin.out] at h8
            obtain rfl : n8 = 0 := h8.len.symm
            go_wp2_with fail
            go_roundw
            case rel => exact ⟨q + 1, n5, A5, c5, T, val, false, by omega, by omega, hc5, by go_num, rfl, rfl, rfl, Lib.hid (HK5.out.next k58), HS5, Lib.hid ⟨(fun h => by cases h), fun _ => hin.out⟩, K8⟩
            case measure => simp [intOf]; omega
          · subst hN
            go_wp2_with fail
            refine (pairs_ok A5 n5 c5 T w5 HK5.out (by omega)).mono ?_
            rintro e w6 ⟨A6, c6, rfl, h6, k6⟩
            go_wp2_with fail
            refine (table_ok A6 n5 c6 T w6 h6 (by omega) true (Lib.hid ((tab_srt T).2 HS5.out))).mono ?_
            rintro e w7 ⟨rfl, m7, hw7⟩
            have k7 : Below w6.heap.size w6 w7 := by rw [hw7]; exact kp_drewN _ _
            have k57 := kp_trans k6 k7
            have K7 := kp_trans K5 k57
            clear hw7 k7 k6 h6
            go_wp2_with fail
            refine (reads_ok 1 key ⟨#[]⟩ A5 n5 c5 T w7 (HK5.out.next k57) hc5 HS5.out (by omega)).mono ?_
            rintro e w8 ⟨A8, n8, c8, rfl, h8, k8⟩
            have k58 := kp_trans k57 k8
            have K8 := kp_trans K7 k8
            rw [reads_none hin.out] at h8
            obtain rfl : n8 = 0 := h8.len.symm
            go_wp2_with fail
            go_roundw
            case rel => exact ⟨q + 1, n5, A5, c5, T, val, false, by omega, by omega, hc5, by go_num, rfl, rfl, rfl, Lib.hid (HK5.out.next k58), HS5, Lib.hid ⟨(fun h => by cases h), fun _ => hin.out⟩, K8⟩
            case measure => simp [intOf]; omega
    · go_wp2_with fail
      go_ret
      exact ⟨rfl, K0⟩
end

/- Statements that name any key and any value, quoted: what they do (no function of the program is named here). -/
section
open Go.RowKit
set_option maxRecDepth 100000

theorem quote_then (x rest : List UInt8) (h : rest[0]? ≠ some 39) : lexF (quoteF 39 x ++ rest) = (lexF rest).map ((3, x) :: ·) := by
  have e : quoteF 39 x ++ rest = 39 :: (twiceF 39 x ++ 39 :: rest) := by simp [quoteF]
  have hs : skipF (39 :: (twiceF 39 x ++ 39 :: rest)) = 0 := skip_plain _ _ (by decide) (beg_not (by decide)) (by decide) (beg_not (by decide))
  have hst : stepF (39 :: (twiceF 39 x ++ 39 :: rest)) = .tok 3 x ((twiceF 39 x).length + 1 + 1) := by
    refine step_of_first _ _ hs ?_
    simp only [firstF]
    rw [if_neg (by decide), if_neg (by decide), if_neg (by decide), if_pos (by decide), quoted_back 39 x rest h]
    simp
  rw [e, lexF_tok (by simp) hst (by omega)]
  congr 1
  congr 1
  rw [List.drop_succ_cons, show twiceF 39 x ++ 39 :: rest = (twiceF 39 x ++ [39]) ++ rest from by simp]
  exact List.drop_left' (by simp)
/-- a sign, whatever stands behind it -/
theorem says_sign (c : UInt8) (hs : ∀ rest, stepF (c :: rest) = .tok 6 [c] 1) : Says [c] [(6, [c])] := fun rest => by
  rw [List.singleton_append, lexF_tok (by simp) (hs rest) (by decide)]
  simp only [List.drop_succ_cons, List.drop_zero]
  cases lexF rest <;> simp
theorem says_open : Says [40] [(6, [40])] := says_sign 40 fun rest => by rfl
theorem says_close : Says [41] [(6, [41])] := says_sign 41 fun rest => by rfl
theorem says_comma : Says [44] [(6, [44])] := says_sign 44 fun rest => by rfl
theorem says_is : Says [61] [(6, [61])] := says_sign 61 fun rest => by rfl
theorem says_stop : Says [59] [(6, [59])] := says_sign 59 fun rest => by rfl
/-- v=, k=, small -/
theorem says_v_is : Says [118, 61] [(1, wV), (6, [61])] := fun rest => by
  rw [show [118, 61] ++ rest = (118 : UInt8) :: 61 :: rest from rfl, lexF_tok (k := 1) (t := wV) (n := 1) (by simp) (by rfl) (by decide)]
  simp only [List.drop_succ_cons, List.drop_zero]
  have := says_is rest
  rw [List.singleton_append] at this
  rw [this]
  cases lexF rest <;> simp
theorem says_k_is : Says [107, 61] [(1, wK), (6, [61])] := fun rest => by
  rw [show [107, 61] ++ rest = (107 : UInt8) :: 61 :: rest from rfl, lexF_tok (k := 1) (t := wK) (n := 1) (by simp) (by rfl) (by decide)]
  simp only [List.drop_succ_cons, List.drop_zero]
  have := says_is rest
  rw [List.singleton_append] at this
  rw [this]
  cases lexF rest <;> simp
theorem says_x : Says [47, 42, 32, 120, 32, 42, 47] [] := fun rest => by
  have hs : stepF (47 :: 42 :: 32 :: 120 :: 32 :: 42 :: 47 :: rest) = .skip 7 := by
    have hidx : Lib.index (32 :: 120 :: 32 :: 42 :: 47 :: rest) ends2 = 3 := by
      have := index_behind [32, 120, 32] 42 (47 :: rest) (by decide) (by decide) (by rw [index_here]; omega)
      rw [index_here] at this
      simpa using this
    have hcl : closedF (47 :: 42 :: 32 :: 120 :: 32 :: 42 :: 47 :: rest) 2 = 7 := by
      unfold closedF
      simp only [List.drop_succ_cons, List.drop_zero]
      rw [hidx]
      decide
    have hln : isLineF (47 :: 42 :: 32 :: 120 :: 32 :: 42 :: 47 :: rest) = false := by
      show (decide ((47 : UInt8).toNat = 35) || begF [45, 45] _) = false
      rw [beg_not (by decide)]
      decide
    have hrm : isRemarkF (47 :: 42 :: 32 :: 120 :: 32 :: 42 :: 47 :: rest) = true := by
      simp [isRemarkF, begF, Lib.hasPrefix, List.isPrefixOf]
    rw [stepF, if_neg (by decide), if_neg (by rw [hln]; simp), if_pos hrm, hcl, if_neg (by decide)]
  show lexF (47 :: 42 :: 32 :: 120 :: 32 :: 42 :: 47 :: rest) = _
  rw [lexF_skip (by simp) hs (by decide)]
  show lexF rest = _
  cases lexF rest <;> simp

/-- a word, a blank behind -/
theorem small (t l : List UInt8) (hr : rightF 1 t = true) (h : t.map Lib.lowerB ++ [32] = l) : Says l [(1, t)] := h ▸ says_small t hr 32 (by decide)
theorem great (t l : List UInt8) (hr : rightF 1 t = true) (h : t ++ [32] = l) : Says l [(1, t)] := h ▸ says_written 1 t hr 32 (by decide)

def pIns : List UInt8 := [105, 110, 115, 101, 114, 116, 32, 105, 110, 116, 111, 32, 107, 118, 32, 118, 97, 108, 117, 101, 115, 32, 40]
def pUpd : List UInt8 := [85, 80, 68, 65, 84, 69, 32, 107, 118, 32, 83, 69, 84, 32, 118, 61]
def pWhr : List UInt8 := [32, 87, 72, 69, 82, 69, 32, 107, 61]
def pRem : List UInt8 := [32, 45, 45, 32, 120]
def pSel : List UInt8 := [47, 42, 32, 120, 32, 42, 47, 115, 101, 108, 101, 99, 116, 32, 118, 32, 102, 114, 111, 109, 32, 107, 118, 32, 119, 104, 101, 114, 101, 32, 107, 61]
def pDel : List UInt8 := [100, 101, 108, 101, 116, 101, 32, 102, 114, 111, 109, 32, 107, 118, 32, 119, 104, 101, 114, 101, 32, 107, 32, 61, 32]
theorem says_ins : Says pIns [(1, wINSERT), (1, wINTO), (1, wKV), (1, wVALUES), (6, [40])] :=
  (small wINSERT [105, 110, 115, 101, 114, 116, 32] (by decide) (by decide)).add ((small wINTO [105, 110, 116, 111, 32] (by decide) (by decide)).add ((small wKV [107, 118, 32] (by decide) (by decide)).add ((small wVALUES [118, 97, 108, 117, 101, 115, 32] (by decide) (by decide)).add says_open)))
theorem says_upd : Says pUpd [(1, wUPDATE), (1, wKV), (1, wSET), (1, wV), (6, [61])] :=
  (great wUPDATE [85, 80, 68, 65, 84, 69, 32] (by decide) (by decide)).add ((small wKV [107, 118, 32] (by decide) (by decide)).add ((great wSET [83, 69, 84, 32] (by decide) (by decide)).add says_v_is))
theorem says_whr : Says pWhr [(1, wWHERE), (1, wK), (6, [61])] :=
  (says_blank 32 (by decide)).add ((great wWHERE [87, 72, 69, 82, 69, 32] (by decide) (by decide)).add says_k_is)
theorem says_sel : Says pSel [(1, wSELECT), (1, wV), (1, wFROM), (1, wKV), (1, wWHERE), (1, wK), (6, [61])] :=
  says_x.add ((small wSELECT [115, 101, 108, 101, 99, 116, 32] (by decide) (by decide)).add ((small wV [118, 32] (by decide) (by decide)).add ((small wFROM [102, 114, 111, 109, 32] (by decide) (by decide)).add ((small wKV [107, 118, 32] (by decide) (by decide)).add ((small wWHERE [119, 104, 101, 114, 101, 32] (by decide) (by decide)).add says_k_is)))))
theorem says_del : Says pDel [(1, wDELETE), (1, wFROM), (1, wKV), (1, wWHERE), (1, wK), (6, [61])] :=
  (small wDELETE [100, 101, 108, 101, 116, 101, 32] (by decide) (by decide)).add ((small wFROM [102, 114, 111, 109, 32] (by decide) (by decide)).add ((small wKV [107, 118, 32] (by decide) (by decide)).add ((small wWHERE [119, 104, 101, 114, 101, 32] (by decide) (by decide)).add ((small wK [107, 32] (by decide) (by decide)).add (says_is.add (says_blank 32 (by decide)))))))
theorem lex_rem : lexF pRem = some [] := by
  rw [pRem, lexF_skip (n := 1) (by simp) (by kernel_rfl) (by decide)]
  simp only [List.drop_succ_cons, List.drop_zero]
  rw [lexF_skip (n := 4) (by simp) (by kernel_rfl) (by decide)]
  simp only [List.drop_succ_cons, List.drop_zero]
  exact lexF_nil

theorem lex_ins (k v : List UInt8) : lexF (pIns ++ (quoteF 39 k ++ ([44] ++ (quoteF 39 v ++ [41])))) = some [(1, wINSERT), (1, wINTO), (1, wKV), (1, wVALUES), (6, [40]), (3, k), (6, [44]), (3, v), (6, [41])] := by
  rw [says_ins, quote_then k _ (by simp), says_comma, quote_then v _ (by simp), says_close.lex]
  rfl
theorem lex_upd (k v : List UInt8) : lexF (pUpd ++ (quoteF 39 v ++ (pWhr ++ (quoteF 39 k ++ pRem)))) = some [(1, wUPDATE), (1, wKV), (1, wSET), (1, wV), (6, [61]), (3, v), (1, wWHERE), (1, wK), (6, [61]), (3, k)] := by
  rw [says_upd, quote_then v _ (by simp [pWhr]), says_whr, quote_then k _ (by simp [pRem]), lex_rem]
  rfl
theorem lex_sel (k : List UInt8) : lexF (pSel ++ (quoteF 39 k ++ [])) = some [(1, wSELECT), (1, wV), (1, wFROM), (1, wKV), (1, wWHERE), (1, wK), (6, [61]), (3, k)] := by
  rw [says_sel, quote_then k _ (by simp), lexF_nil]
  rfl
theorem lex_del (k : List UInt8) : lexF (pDel ++ (quoteF 39 k ++ ([59] ++ [59]))) = some [(1, wDELETE), (1, wFROM), (1, wKV), (1, wWHERE), (1, wK), (6, [61]), (3, k), (6, [59]), (6, [59])] := by
  rw [says_del, quote_then k _ (by simp), says_stop, says_stop.lex]
  rfl
theorem quote_len (k : List UInt8) : (quoteF 39 k).length ≤ 2 * k.length + 2 := by
  have := twiceF_length 39 k
  simp [quoteF]
  omega
theorem plan_ins (k v : List UInt8) (h : k.length + v.length ≤ 30) : planA (pIns ++ (quoteF 39 k ++ ([44] ++ (quoteF 39 v ++ [41])))) = (3, k, v) := by
  rw [planA_lex (lex_ins k v) (by
    have h1 := quote_len k
    have h2 := quote_len v
    have h3 : pIns.length = 23 := rfl
    simp only [List.length_append, List.length_cons, List.length_nil]
    omega)]
  rfl
theorem plan_upd (k v : List UInt8) (h : k.length + v.length ≤ 60) : planA (pUpd ++ (quoteF 39 v ++ (pWhr ++ (quoteF 39 k ++ pRem)))) = (4, k, v) := by
  rw [planA_lex (lex_upd k v) (by
    have h1 := quote_len k
    have h2 := quote_len v
    have h3 : pUpd.length = 16 := rfl
    have h4 : pWhr.length = 9 := rfl
    have h5 : pRem.length = 5 := rfl
    simp only [List.length_append]
    omega)]
  rfl
theorem plan_sel (k : List UInt8) (h : k.length ≤ 30) : planA (pSel ++ (quoteF 39 k ++ [])) = (1, k, []) := by
  rw [planA_lex (lex_sel k) (by
    have h1 := quote_len k
    have h3 : pSel.length = 32 := rfl
    simp only [List.length_append, List.length_nil]
    omega)]
  rfl
theorem plan_del (k : List UInt8) (h : k.length ≤ 30) : planA (pDel ++ (quoteF 39 k ++ ([59] ++ [59]))) = (5, k, []) := by
  rw [planA_lex (lex_del k) (by
    have h1 := quote_len k
    have h3 : pDel.length = 25 := rfl
    simp only [List.length_append, List.length_cons, List.length_nil]
    omega)]
  rfl
end
end Go.Proofs.YtaimmdhjfccnkaaDoor
