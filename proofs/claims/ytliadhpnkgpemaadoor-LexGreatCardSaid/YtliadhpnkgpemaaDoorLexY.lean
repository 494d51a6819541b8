/-
  strings.ContainsAny at any text, of the four bytes that quote: contract.
-/
import Derived.Test.YtliadhpnkgpemaaDoorLexX
namespace Go.Proofs.YtliadhpnkgpemaaDoor
open Go.RowKit
set_option maxRecDepth 100000

theorem indexAny_free (chars : List UInt8) : ∀ l : List UInt8, Lib.indexAny l chars < 0 → ∀ c ∈ l, chars.contains c = false
  | [], _, c, hc => by cases hc
  | b :: l, h, c, hc => by
    rw [Lib.indexAny] at h
    cases hb : chars.contains b with
    | true => rw [hb] at h; simp at h
    | false =>
      rw [hb] at h
      simp only [Bool.false_eq_true, if_false] at h
      have hl : Lib.indexAny l chars < 0 := by
        have := Lib.indexAny_ge chars l
        split at h
        · rename_i e; have := beq_iff_eq.1 e; omega
        · omega
      rcases List.mem_cons.1 hc with rfl | hc
      · exact hb
      · exact indexAny_free chars l hl c hc
theorem plain_free (l : List UInt8) (h : Lib.indexAny l [34, 39, 96, 42] < 0) : PlainB l := fun c hc => by
  have := indexAny_free _ l h c hc
  simp at this
  obtain ⟨a, b, d, e⟩ := this
  exact ⟨a, b, d, e⟩

theorem idxAny_ok (s : ByteArray) (w : World) (hs : s.size ≤ 1000000) :
    Calls Tryd.prog 56 #[.string s, .string ⟨#[34, 39, 96, 42]⟩] w fun e w' => ∃ i : Int, e = .returned (.int .i64 i) ∧ (i < 0 → (∀ c ∈ s.data.toList, lowAscii c = true) → PlainB s.data.toList) ∧ Below w.heap.size w w' := by
  have h4 : ∀ (j : Nat) (b : UInt8), (⟨#[34, 39, 96, 42]⟩ : ByteArray).data.toList[j]? = some b → b.toNat < 128 := fun j b hb => by
    have hm := List.mem_of_getElem? hb
    simp only [List.mem_cons, List.not_mem_nil, or_false] at hm
    rcases hm with rfl | rfl | rfl | rfl <;> decide
  have h116 : (Tryd.prog.info? (Tryd.lays153_ren.t 116)).map (fun i => (i.zero, i.size)) = some (some (.agg (Array.replicate 256 (.bool false))), 256) := by kernel_rfl
  by_cases h8 : 8 < s.size
  · have k := Any.strings_IndexAny_long Tryd.lays153 (zero_of_info h116).1 (zero_of_info h116).2 s ⟨#[34, 39, 96, 42]⟩ w (by show 2 ≤ 4; omega) h8 (by omega) (by show 4 < 4294967281; omega) h4
    change Calls Tryd.prog 56 _ _ _ at k
    exact k.mono fun e w' ⟨he, hw⟩ => ⟨_, he, fun hi _ => plain_free _ hi, hw ▸ kp_alloc (kp_new _ _) _⟩
  by_cases ha : ∀ c ∈ s.data.toList, lowAscii c = true
  · have k := Any.strings_IndexAny_laid Tryd.lays153 h116 s ⟨#[34, 39, 96, 42]⟩ w (by omega) (by show 4 < 4294967281; omega) (fun j b hb => by have := ha b (List.mem_of_getElem? hb); unfold lowAscii at this; exact of_decide_eq_true this) h4
    change Calls Tryd.prog 56 _ _ _ at k
    exact k.mono fun e w' ⟨he, hw⟩ => ⟨_, he, fun hi _ => plain_free _ hi, hw⟩
  · exact (idxAny_short s w (by omega)).mono fun e w' ⟨i, he, hw⟩ => ⟨i, he, fun _ h => absurd h ha, hw⟩

theorem anyMarks_s (s : ByteArray) (w : World) (hs : s.size ≤ 1000000) :
    Calls Tryd.prog 25 #[.string s, .string ⟨#[34, 39, 96, 42]⟩] w fun e w' => ∃ b : Bool, e = .returned (.bool b) ∧ (b = false → (∀ c ∈ s.data.toList, lowAscii c = true) → PlainB s.data.toList) ∧ Below w.heap.size w w' := by
  have HI := Lib.hid (idxAny_ok s w hs)
  go_enter Tryd.func25, Tryd.ntmps25
  go_wp2_with fail
  refine HI.out.mono ?_
  rintro e w1 ⟨i, rfl, hp, k1⟩
  have HP := Lib.hid hp
  clear hp
  go_wp2_with fail
  go_ret
  exact ⟨_, rfl, fun h => HP.out (by have := of_decide_eq_false h; omega), k1⟩
end Go.Proofs.YtliadhpnkgpemaaDoor
