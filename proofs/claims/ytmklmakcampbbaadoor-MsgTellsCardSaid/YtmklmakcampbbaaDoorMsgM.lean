/-
  Messages come back from their Bodies, and Bodies from their messages: plain mathematics.
-/
import Derived.Test.YtmklmakcampbbaaDoorMsgF
namespace Go.Proofs.YtmklmakcampbbaaDoor
open Go.RowKit
set_option maxRecDepth 100000

theorem takeN_lay : ∀ {ss ns : List Nat} (rest : List UInt8), fitN ss ns = true → takeN ss (layN ss ns ++ rest) = some (ns, rest)
  | [], [], _, _ => rfl
  | s :: ss, n :: ns, rest, h => by
    simp only [fitN, Bool.and_eq_true, decide_eq_true_eq] at h
    have hl : (be s n).length = s := be_length s n
    simp only [layN, takeN, List.append_assoc]
    rw [if_neg (by rw [List.length_append, hl]; omega)]
    have h1 : (be s n ++ (layN ss ns ++ rest)).drop s = layN ss ns ++ rest := by rw [List.drop_append_of_le_length (by omega), List.drop_of_length_le (by omega), List.nil_append]
    have h2 : (be s n ++ (layN ss ns ++ rest)).take s = be s n := by rw [List.take_append_of_le_length (by omega), List.take_of_length_le (by omega)]
    rw [h1, h2, takeN_lay rest h.2, val_be s n h.1]
    rfl
  | [], _ :: _, _, h => by simp [fitN] at h
  | _ :: _, [], _, h => by simp [fitN] at h
theorem lay_takeN : ∀ {ss : List Nat} {bs : List UInt8} {r : List Nat × List UInt8}, takeN ss bs = some r → layN ss r.1 ++ r.2 = bs
  | [], bs, r, h => by
    simp only [takeN, Option.some.injEq] at h
    subst h
    rfl
  | s :: ss, bs, r, h => by
    simp only [takeN] at h
    split at h
    · cases h
    · rename_i hs
      obtain ⟨q, hq, rfl⟩ := Option.map_eq_some_iff.1 h
      have h1 := lay_takeN hq
      simp only [layN, List.append_assoc]
      rw [be_val s (bs.take s) (by rw [List.length_take]; omega), h1, List.take_append_drop]
theorem textsF_lay : ∀ ts : List ByteArray, (∀ t ∈ ts, t.size ≤ 65535) → textsF (layT ts) = some ts
  | [], _ => textsF_nil
  | t :: ts, h => by
    have ht := h t (by simp)
    have hl : t.data.toList.length = t.size := by rw [Array.length_toList]; rfl
    have hb : (be 2 t.size).length = 2 := be_length 2 t.size
    have e : layT (t :: ts) = be 2 t.size ++ (t.data.toList ++ layT ts) := by simp [layT, txtB]
    have hv : val ((layT (t :: ts)).take 2) = t.size := by
      rw [e, List.take_append_of_le_length (by omega), List.take_of_length_le (by omega), val_be 2 t.size (by omega)]
    have hlen : (layT (t :: ts)).length = 2 + t.size + (layT ts).length := by
      rw [e, List.length_append, List.length_append, hl, hb]; omega
    rw [textsF_step (by omega) (by rw [hv]; omega), hv]
    have e1 : (layT (t :: ts)).drop (2 + t.size) = layT ts := by
      rw [e, ← List.append_assoc, List.drop_append_of_le_length (by rw [List.length_append]; omega), List.drop_of_length_le (by rw [List.length_append]; omega), List.nil_append]
    have e2 : (((layT (t :: ts)).take (2 + t.size)).drop 2).toArray = t.data := by
      rw [e, ← List.append_assoc, List.take_append_of_le_length (by rw [List.length_append]; omega), List.take_of_length_le (by rw [List.length_append]; omega), List.drop_append_of_le_length (by omega), List.drop_of_length_le (by omega), List.nil_append]
    rw [e1, e2, textsF_lay ts (fun u hu => h u (by simp [hu]))]
    rfl
theorem lay_textsF : ∀ (q : Nat) {bs : List UInt8} {ts : List ByteArray}, bs.length = q → textsF bs = some ts → layT ts = bs := by
  intro q
  induction q using Nat.strongRecOn with
  | _ q ih =>
    intro bs ts hq h
    by_cases h0 : bs = []
    · subst h0; rw [textsF_nil] at h; injection h with h; subst h; rfl
    by_cases h2 : bs.length < 2
    · rw [textsF_few h0 h2] at h; cases h
    by_cases h3 : bs.length < 2 + val (bs.take 2)
    · rw [textsF_short (by omega) h3] at h; cases h
    · rw [textsF_step (by omega) (by omega)] at h
      obtain ⟨us, hus, rfl⟩ := Option.map_eq_some_iff.1 h
      have h1 := ih _ (by rw [List.length_drop]; omega) rfl hus
      have hsz : (⟨((bs.take (2 + val (bs.take 2))).drop 2).toArray⟩ : ByteArray).size = val (bs.take 2) := by
        show (((bs.take (2 + val (bs.take 2))).drop 2).toArray).size = _
        rw [List.size_toArray, List.length_drop, List.length_take]
        omega
      have e : layT ((⟨((bs.take (2 + val (bs.take 2))).drop 2).toArray⟩ : ByteArray) :: us) = txtB ⟨((bs.take (2 + val (bs.take 2))).drop 2).toArray⟩ ++ layT us := by simp [layT]
      rw [e, h1, txtB, hsz, be_val 2 (bs.take 2) (by rw [List.length_take]; omega)]
      have e3 : ∀ v : Nat, bs.take 2 ++ (bs.take (2 + v)).drop 2 = bs.take (2 + v) := fun v => by
        have h := List.take_append_drop 2 (bs.take (2 + v))
        rw [List.take_take, Nat.min_eq_left (by omega)] at h
        exact h
      show (bs.take 2 ++ (bs.take (2 + val (bs.take 2))).drop 2) ++ bs.drop (2 + val (bs.take 2)) = bs
      rw [e3, List.take_append_drop]

theorem apartF_lay {k : Nat} {ns : List Nat} {ts : List ByteArray} (h : fitN (szs k) ns = true) (ht : ∀ t ∈ ts, t.size ≤ 65535) : apartF k (layF k ns ts) = some (ns, ts) := by
  rw [apartF, layF, takeN_lay _ h]
  simp only [Option.bind_some, textsF_lay ts ht, Option.map_some]
theorem lay_apartF {k : Nat} {bs : List UInt8} {x : List Nat × List ByteArray} (h : apartF k bs = some x) : layF k x.1 x.2 = bs := by
  unfold apartF at h
  obtain ⟨q, hq, h2⟩ := Option.bind_eq_some_iff.1 h
  obtain ⟨ts, hts, rfl⟩ := Option.map_eq_some_iff.1 h2
  rw [layF, lay_textsF _ rfl hts]
  exact lay_takeN hq

/-- what Frame tells of a message: three ways -/
theorem frameF_cases (k : Int) (ns : List Nat) (ts : List ByteArray) :
    (rightF k ns ts = false ∧ frameF k ns ts = (0, [], 1)) ∨ (rightF k ns ts = true ∧ 300 < (layF k.toNat ns ts).length ∧ frameF k ns ts = (0, [], 4)) ∨
    (rightF k ns ts = true ∧ (layF k.toNat ns ts).length ≤ 300 ∧ frameF k ns ts = (UInt8.ofNat k.toNat, layF k.toNat ns ts, 0)) := by
  unfold frameF
  cases h : rightF k ns ts
  · exact .inl ⟨rfl, if_pos rfl⟩
  · rw [if_neg (by decide)]
    by_cases h2 : 300 < (layF k.toNat ns ts).length
    · exact .inr (.inl ⟨rfl, h2, if_pos h2⟩)
    · exact .inr (.inr ⟨rfl, by omega, if_neg h2⟩)
theorem rightF_parts {k : Int} {ns : List Nat} {ts : List ByteArray} (h : rightF k ns ts = true) : (1 ≤ k ∧ k ≤ 14) ∧ fitN (szs k.toNat) ns = true ∧ (∀ t ∈ ts, t.size ≤ 200) := by
  unfold rightF at h
  simp only [Bool.and_eq_true, decide_eq_true_eq] at h
  exact ⟨h.1, h.2.1, (okT_parts h.2.2).1⟩
/-- a message comes back from its frame -/
theorem ofF_back {k : Int} {ns : List Nat} {ts : List ByteArray} (h : rightF k ns ts = true) (hl : (layF k.toNat ns ts).length ≤ 300) :
    ofF (UInt8.ofNat k.toNat) (layF k.toNat ns ts) = some (ns, ts) ∧ ((UInt8.ofNat k.toNat).toNat : Int) = k := by
  obtain ⟨hk, hf, ht⟩ := rightF_parts h
  have e : (UInt8.ofNat k.toNat).toNat = k.toNat := by simp only [UInt8.toNat_ofNat']; omega
  have e2 : ((k.toNat : Nat) : Int) = k := by omega
  refine ⟨?_, by rw [e, e2]⟩
  rw [ofF, e, if_pos ⟨by omega, hl⟩, apartF_lay hf (fun t h => by have := ht t h; omega)]
  simp [Option.filter, e2, h]
theorem ofF_len {k : UInt8} {bs : List UInt8} {x : List Nat × List ByteArray} (h : ofF k bs = some x) : x.1.length ≤ 3 ∧ x.2.length ≤ 300 := by
  unfold ofF at h
  split at h
  · rename_i hc
    have := apartF_len (by omega) (Option.filter_eq_some_iff.1 h).1
    omega
  · cases h
/-- a frame comes back from its message -/
theorem frameF_back {k : UInt8} {bs : List UInt8} {x : List Nat × List ByteArray} (h : ofF k bs = some x) : rightF (k.toNat : Int) x.1 x.2 = true ∧ frameF (k.toNat : Int) x.1 x.2 = (k, bs, 0) := by
  unfold ofF at h
  split at h
  · rename_i hc
    cases ha : apartF k.toNat bs with
    | none => rw [ha] at h; cases h
    | some y =>
      rw [ha] at h
      simp only [Option.filter] at h
      split at h
      · rename_i hr
        injection h with h
        subst h
        have hlay := lay_apartF ha
        rcases frameF_cases (k.toNat : Int) y.1 y.2 with ⟨h1, _⟩ | ⟨_, h1, _⟩ | ⟨_, _, h1⟩
        · rw [h1] at hr; cases hr
        · rw [Int.toNat_natCast, hlay] at h1; omega
        · refine ⟨hr, ?_⟩
          rw [h1, Int.toNat_natCast, hlay]
          simp
      · cases h
  · cases h
end Go.Proofs.YtmklmakcampbbaaDoor
