/-
  A word with great letters; where a remark, or a hint, ends; what begins a remark: contracts.
-/
import Derived.Test.YtliadhpnkgpemaaDoorLexB
import Derived.BigCall
namespace Go.Proofs.YtliadhpnkgpemaaDoor
open Go.RowKit
set_option maxRecDepth 100000

theorem up_byte (c : UInt8) (h1 : 97 ≤ c.toNat) (h2 : c.toNat ≤ 122) : ((upF c).toNat : Int) = (c.toNat : Int) + -32 := by
  have : ((c - 32).toNat : Int) = (c.toNat : Int) + -32 := by
    have h3 : (32 : UInt8) ≤ c := by rw [UInt8.le_iff_toNat_le]; simp; omega
    rw [UInt8.toNat_sub_of_le _ _ h3]
    simp
    omega
  unfold upF
  rw [if_pos ⟨h1, h2⟩]
  exact this
theorem up_same (c : UInt8) (h : ¬ (97 ≤ c.toNat ∧ c.toNat ≤ 122)) : upF c = c := by unfold upF; rw [if_neg h]
theorem up_lt (c : UInt8) (h : c.toNat < 128) : (upF c).toNat < 128 := by
  by_cases h1 : 97 ≤ c.toNat ∧ c.toNat ≤ 122
  · have := up_byte c h1.1 h1.2
    omega
  · rw [up_same c h1]; exact h
theorem drop_take_map (f : UInt8 → UInt8) (l : List UInt8) (k : Nat) (h : k < l.length) : (l.take (k + 1)).map f = (l.take k).map f ++ [f l[k]] := by
  rw [List.take_succ_eq_append_getElem h, List.map_append]
  rfl

set_option maxHeartbeats 1000000 in
theorem great_ok (s : ByteArray) (w : World) (hs : s.size ≤ 1000000) (ha : ∀ c ∈ s.data.toList, c.toNat < 128) : Calls Tryd.prog 62 #[.string s] w fun e w' => ∃ r : ByteArray, e = .returned (.string r) ∧ r.data.toList = greatF s.data.toList ∧ Below w.heap.size w w' := by
  have HA := Lib.hid ha
  clear ha
  have hlen := Lib.hid (text_len s)
  go_enter Tryd.func62, Tryd.ntmps62
  go_wp2
  go_loopw [] (fun wr => ∃ (pos : Nat), pos ≤ s.size ∧ Bd w.heap.size w.heap.size ((s.data.toList.take pos).map upF) wr ∧ wr.heap[w.heap.size + 1]? = some (.stringIter s pos) ∧ Below w.heap.size w wr) (fun wr => s.size - wr.iterPos (w.heap.size + 1))
  case atStart =>
    refine ⟨0, Nat.zero_le _, (Bd.new w w.heap.size (Nat.le_refl _)).alloc _, ?_, ((Below.refl _ w).alloc (Nat.le_refl _) _).alloc (by simp) _⟩
    have := World.iter_heap (w.alloc (.cells #[.pointer none, .slice none 0 0] 49)) s 0
    simpa using this
  case round =>
    obtain ⟨pos, hle, hI, hit, hbw⟩ := hrel
    have hsz : w.heap.size + 1 < wr.heap.size := (Array.getElem?_eq_some_iff.1 hit).1
    by_cases hp : pos < s.size
    · have hpl : pos < s.data.toList.length := by rw [hlen.out]; exact hp
      have hb := text_at s pos hp
      have hmem := HA.out (s.data.toList[pos]) (List.getElem_mem _)
      have hnext := Lib.hid (drop_take_map upF s.data.toList pos hpl)
      have hll : ((s.data.toList.take pos).map upF).length ≤ 1000000 := by rw [List.length_map, List.length_take]; omega
      generalize hc : s.data.toList[pos] = c at hb hmem hnext
      have hnx0 := fun ty => Lib.run_next_ascii_at (P := Tryd.prog) wr (w.heap.size + 1) s pos ty hit hp (by rw [hb]; exact hmem)
      rw [hb] at hnx0
      have hI2 := hI.iterAt hit (pos + 1)
      have hit2 := Lib.iterAt_heap wr (w.heap.size + 1) s pos (pos + 1) hit
      have hbw2 := Lib.below_iterAt hbw (k := w.heap.size + 1) (by omega) s (pos + 1)
      have hsz2 : w.heap.size ≤ (wr.iterAt (w.heap.size + 1) s (pos + 1)).heap.size := by rw [Lib.iterAt_size]; omega
      have hW := fun d (hd : d.toNat < 128) => writeRune_s w.heap.size w.heap.size _ d _ hI2 (by omega) hd hsz2
      have HW := Lib.hid hW
      clear hW hI hI2 hc hb
      by_cases hlow : 97 ≤ c.toNat ∧ c.toNat ≤ 122
      · obtain ⟨h1, h2⟩ := hlow
        have hu := up_byte c h1 h2
        have hlt := up_lt c hmem
        have HU := Lib.hid hu
        clear hu
        have HL := Lib.hid (And.intro h1 h2)
        have hW1 := HW.out (upF c) hlt
        rw [HU.out] at hW1
        have HW1 := Lib.hid hW1
        clear hW1
        go_wp2_with fail
        refine HW1.out.mono ?_
        rintro e W1 ⟨rfl, h1, b1, k1⟩
        go_wp2_with fail
        go_roundw
        case rel =>
          exact ⟨pos + 1, by omega, by rw [hnext.out]; exact h1, k1.iter hit2 (by omega), hbw2.trans b1⟩
        case measure =>
          simp only [World.iterPos, k1.iter hit2 (by omega), hit]
          omega
      · have hW1 := HW.out c hmem
        rw [up_same c hlow] at hnext
        have HW1 := Lib.hid hW1
        clear hW1
        go_wp2_with fail
        all_goals
          refine HW1.out.mono ?_
          rintro e W1 ⟨rfl, h1, b1, k1⟩
          go_wp2_with fail
          go_roundw
          case rel =>
            exact ⟨pos + 1, by omega, by rw [hnext.out]; exact h1, k1.iter hit2 (by omega), hbw2.trans b1⟩
          case measure =>
            simp only [World.iterPos, k1.iter hit2 (by omega), hit]
            omega
    · have hnx : ∀ ty, (Instr.next (.pointer (some ⟨w.heap.size + 1, 0, none⟩)) true ty).run Tryd.prog wr = _ := fun ty => Lib.run_next_end_at wr (w.heap.size + 1) s pos ty hit hp
      obtain rfl : pos = s.size := by omega
      have hS := string_s w.heap.size w.heap.size _ wr hI (by omega)
      rw [List.take_of_length_le (by rw [hlen.out]; exact Nat.le_refl _)] at hS
      have HS := Lib.hid hS
      clear hS
      go_wp2_with fail
      refine HS.out.mono ?_
      rintro e W1 ⟨r, rfl, hr, b1⟩
      go_wp2_with fail
      go_ret
      exact ⟨r, rfl, hr, hbw.trans b1⟩

set_option maxHeartbeats 400000 in
theorem closedSize_ok (s : ByteArray) (o : Nat) (w : World) (hs : s.size ≤ 1000000) (ho : o ≤ s.size) (hL : Lw w) : Calls Tryd.prog 33 #[.string s, .int .i64 (o : Int)] w fun e w' => e = .returned (.int .i64 (closedF s.data.toList o : Int)) ∧ w = w' := by
  have hi := index_s (s.extract o s.size) ⟨#[42, 47]⟩ w hL (by rw [ByteArray.size_extract]; omega)
  rw [text_rest] at hi
  have hr : 0 ≤ Lib.index (s.data.toList.drop o) ends2 → (Lib.index (s.data.toList.drop o) ends2).toNat + 2 ≤ s.size - o := fun h => by
    have := index_room h (by decide)
    rw [List.length_drop, text_len] at this
    exact this
  have hF : closedF s.data.toList o = if Lib.index (s.data.toList.drop o) ends2 < 0 then 0 else o + (Lib.index (s.data.toList.drop o) ends2).toNat + 2 := rfl
  have hge := Lib.index_ge (s.data.toList.drop o) ends2
  rw [show (⟨#[42, 47]⟩ : ByteArray).data.toList = ends2 from rfl] at hi
  generalize Lib.index (s.data.toList.drop o) ends2 = x at hi hr hF hge
  have HI := Lib.hid hi
  have HR := Lib.hid hr
  have HF := Lib.hid hF
  clear hi hr hF
  by_cases h0 : x < 0
  · have hx : x = -1 := by omega
    rw [if_pos h0] at HF
    go_enter Tryd.func33, Tryd.ntmps33
    go_wp2_with (go_at_call 47; refine HI.out.mono ?_; rintro e w' ⟨rfl, rfl⟩)
    go_ret
    exact ⟨by rw [HF.out]; rfl, rfl⟩
  · have hr2 := HR.out (by omega)
    obtain ⟨k, rfl⟩ : ∃ k : Nat, x = k := ⟨x.toNat, by omega⟩
    rw [if_neg h0, Int.toNat_natCast] at HF
    rw [Int.toNat_natCast] at hr2
    go_enter Tryd.func33, Tryd.ntmps33
    go_wp2_with (go_at_call 47; refine HI.out.mono ?_; rintro e w' ⟨rfl, rfl⟩)
    go_ret
    exact ⟨by rw [HF.out]; simp, rfl⟩

set_option maxHeartbeats 400000 in
theorem beginsLine_ok (s : ByteArray) (w : World) (hs : 0 < s.size) : Calls Tryd.prog 30 #[.string s] w fun e w' => e = .returned (.bool (isLineF s.data.toList)) ∧ w = w' := by
  have hl : 0 < s.data.toList.length := by rw [text_len]; exact hs
  have hb := text_at s 0 hs
  have hh := hasPrefix_s s ⟨#[45, 45]⟩ w
  have hF : isLineF s.data.toList = (decide ((s.data.toList[0]).toNat = 35) || begF [45, 45] s.data.toList) := by
    generalize s.data.toList = l at hl
    cases l with
    | nil => simp at hl
    | cons c r => rfl
  rw [show (⟨#[45, 45]⟩ : ByteArray).data.toList = [45, 45] from rfl] at hh
  generalize begF [45, 45] s.data.toList = y at hh hF
  generalize s.data.toList[0] = c at hb hF
  have HH := Lib.hid hh
  have HF := Lib.hid hF
  clear hh hF hl
  cases y <;> by_cases hc : c.toNat = 35
  all_goals
    go_enter Tryd.func30, Tryd.ntmps30
    go_wp2_with (go_at_call 18; refine HH.out.mono ?_; rintro e w' ⟨rfl, rfl⟩)
    go_ret
    exact ⟨ret_bool (by rw [HF.out]; first | (simp [hc]; done) | (simp [hc]; omega)), rfl⟩

set_option maxHeartbeats 400000 in
theorem beginsRemark_ok (s : ByteArray) (w : World) : Calls Tryd.prog 32 #[.string s] w fun e w' => e = .returned (.bool (isRemarkF s.data.toList)) ∧ w = w' := by
  have h1 := hasPrefix_s s ⟨#[47, 42]⟩ w
  have h2 := hasPrefix_s s ⟨#[47, 42, 43]⟩ w
  have hF : isRemarkF s.data.toList = (begF [47, 42] s.data.toList && !begF [47, 42, 43] s.data.toList) := rfl
  rw [show (⟨#[47, 42]⟩ : ByteArray).data.toList = [47, 42] from rfl] at h1
  rw [show (⟨#[47, 42, 43]⟩ : ByteArray).data.toList = [47, 42, 43] from rfl] at h2
  generalize begF [47, 42] s.data.toList = x at h1 hF
  generalize begF [47, 42, 43] s.data.toList = y at h2 hF
  have H1 := Lib.hid h1
  have H2 := Lib.hid h2
  have HF := Lib.hid hF
  clear h1 h2 hF
  cases x <;> cases y
  all_goals
    go_enter Tryd.func32, Tryd.ntmps32
    go_wp2_with fail
    refine H1.out.mono ?_
    rintro e w' ⟨rfl, rfl⟩
    go_wp2_with fail
    first
      | (refine H2.out.mono ?_
         rintro e w' ⟨rfl, rfl⟩
         go_wp2_with fail
         go_ret
         exact ⟨ret_bool (by rw [HF.out]; rfl), rfl⟩)
      | (go_ret
         exact ⟨ret_bool (by rw [HF.out]; rfl), rfl⟩)
end Go.Proofs.YtliadhpnkgpemaaDoor
