/-
  The library's contracts in these texts' own words: a builder's bytes as a list, texts as lists of bytes.
-/
import Derived.Test.YtliadhpnkgpemaaDoorShelf
import Derived.Test.YtliadhpnkgpemaaDoorLexP
import Derived.Shelf.Strings.SlTrimAscii
namespace Go.Proofs.YtliadhpnkgpemaaDoor
open Go.RowKit
set_option maxRecDepth 100000

theorem byteCells_bvs (l : List UInt8) : Lib.byteCells l = bvs l := rfl
theorem text_len (s : ByteArray) : s.data.toList.length = s.size := by rw [Array.length_toList]; rfl
theorem text_ext {s t : ByteArray} (h : s.data.toList = t.data.toList) : s = t := by
  cases s; cases t
  simp only [ByteArray.mk.injEq]
  exact Array.toList_inj.1 h
theorem text_cut (s : ByteArray) (a b : Nat) : (s.extract a b).data.toList = (s.data.toList.drop a).take (b - a) := by
  rw [ByteArray.data_extract]
  simp
theorem text_rest (s : ByteArray) (a : Nat) : (s.extract a s.size).data.toList = s.data.toList.drop a := by
  rw [text_cut, List.take_of_length_le]
  rw [List.length_drop, text_len]
  exact Nat.le_refl _
theorem text_front (s : ByteArray) (b : Nat) : (s.extract 0 b).data.toList = s.data.toList.take b := by
  rw [text_cut]
  simp
theorem text_at (s : ByteArray) (i : Nat) (h : i < s.size) : s[i] = s.data.toList[i]'(by rw [text_len]; exact h) := by
  rw [Array.getElem_toList]
  rfl

/-- the variable that the library's search reads holds some number -/
def Lw (w : World) : Prop := ∃ m : Int, w.cell? ⟨0, 0, none⟩ = some (.int .i64 m)
theorem Lw.next {w w' : World} (h : Lw w) (hb : Below w.heap.size w w') : Lw w' := by
  obtain ⟨m, hm⟩ := h
  exact ⟨m, (hb.cell (World.block_lt_of_cell? _ _ hm)).trans hm⟩
theorem Lw.below {w w' : World} {B : Nat} (h : Lw w) (hb : Below B w w') (hB : 0 < B) : Lw w' := by
  obtain ⟨m, hm⟩ := h
  exact ⟨m, (hb.cell hB).trans hm⟩

theorem indexByte_s (s : ByteArray) (c : UInt8) (w : World) : Calls Tryd.prog 31 #[.string s, .int .u8 (c.toNat : Int)] w fun e w' => e = .returned (.int .i64 (Lib.indexByte s.data.toList c)) ∧ w' = w := by
  have h := Tryd.strings_IndexByte s (c.toNat : Int) w
  have e : (c.toNat : Int).toNat.toUInt8 = c := by simp
  rw [e] at h
  exact h

theorem index_s (s sub : ByteArray) (w : World) (hL : Lw w) (hs : s.size ≤ 1000000) : Calls Tryd.prog 47 #[.string s, .string sub] w fun e w' => e = .returned (.int .i64 (Lib.index s.data.toList sub.data.toList)) ∧ w' = w := by
  obtain ⟨m, hm⟩ := hL
  exact Tryd.strings_Index s sub m w (by omega) hm

theorem contains_s (s sub : ByteArray) (w : World) (hL : Lw w) (hs : s.size ≤ 1000000) : Calls Tryd.prog 17 #[.string s, .string sub] w fun e w' => e = .returned (.bool (Lib.contains s.data.toList sub.data.toList)) ∧ w' = w := by
  obtain ⟨m, hm⟩ := hL
  exact Tryd.strings_Contains s sub m w (by omega) hm

theorem hasPrefix_s (s p : ByteArray) (w : World) : Calls Tryd.prog 18 #[.string s, .string p] w fun e w' => e = .returned (.bool (begF p.data.toList s.data.toList)) ∧ w' = w := Tryd.strings_HasPrefix s p w

theorem trim_s (s : ByteArray) (w : World) (hs : s.size ≤ 1000000) : Calls Tryd.prog 40 #[.string s, .string ⟨#[32, 9, 10, 13]⟩] w fun e w' => ∃ r : ByteArray, e = .returned (.string r) ∧ r.data.toList = trimF s.data.toList ∧ Below w.heap.size w w' := by
  have h := Any.strings_Trim_laid Tryd.lays160 (by kernel_rfl) s ⟨#[32, 9, 10, 13]⟩ w (by omega) (by decide) (ascii_of_all (by decide))
  change Calls Tryd.prog 40 _ _ _ at h
  exact h.mono fun _ _ ⟨he, hb⟩ => ⟨_, he, by simp [trimF, blanks4], hb⟩

/-- a builder of the call's own that holds these bytes -/
def Bd (B b : Nat) (l : List UInt8) (w : World) : Prop := Lib.IsBuilderF 49 5 B b (Lib.byteCells l) w
/-- what a write leaves as it was -/
def Kept (b : Nat) (w w' : World) : Prop := Lib.OthersKept 5 (some b) w w'

theorem Bd.new (w : World) (B : Nat) (hB : B ≤ w.heap.size) : Bd B w.heap.size [] (w.alloc (.cells #[.pointer none, .slice none 0 0] 49)) := by
  have h := Lib.IsBuilderF.of (Lib.fresh_isBuilder 49 5 w)
  rcases h with ⟨_, v, hb, hown, hne⟩ | ⟨_, v, hb, hown, hne⟩
  · have hz := hown.1
    refine .inl ⟨hB, v, hb, ⟨hz, ?_⟩, hne⟩
    rcases hown.2 with h2 | ⟨g, cap, cur, fz, hv, hg, r⟩
    · exact .inl h2
    · exact .inr ⟨g, cap, cur, fz, hv, by omega, r⟩
  · have hz := hown.1
    refine .inr ⟨hB, v, hb, ⟨hz, ?_⟩, hne⟩
    rcases hown.2 with h2 | ⟨g, cap, cur, fz, hv, hg, r⟩
    · exact .inl h2
    · exact .inr ⟨g, cap, cur, fz, hv, by omega, r⟩
theorem Bd.alloc {B b : Nat} {l : List UInt8} {w : World} (h : Bd B b l w) (o : Obj) : Bd B b l (w.alloc o) := Lib.IsBuilderF.alloc h o

theorem writeByte_s (B b : Nat) (l : List UInt8) (c : UInt8) (w : World) (h : Bd B b l w) (hl : l.length ≤ 100000000) (hB : B ≤ w.heap.size) :
    Calls Tryd.prog 44 #[.pointer (some ⟨b, 0, none⟩), .int .u8 (c.toNat : Int)] w fun e w' => e = .returned .nilIface ∧ Bd B b (l ++ [c]) w' ∧ Below B w w' ∧ Kept b w w' := by
  have k := Any.Builder_WriteByte_k { Tryd.lays230 with } Tryd.Builder_Extra_230 B b (Lib.byteCells l) (c.toNat : Int) w h (by rw [Lib.byteCells_length]; omega) hB
  change Calls Tryd.prog 44 _ _ _ at k
  refine k.mono fun e w' ⟨he, h1, h2, h3⟩ => ⟨he, ?_, h2, h3⟩
  unfold Bd
  rw [Lib.byteCells_append]
  exact .inr h1

theorem writeString_s (B b : Nat) (l : List UInt8) (s : ByteArray) (w : World) (h : Bd B b l w) (hl : l.length ≤ 100000000) (hs : s.size ≤ 100000000) (hB : B ≤ w.heap.size) :
    Calls Tryd.prog 22 #[.pointer (some ⟨b, 0, none⟩), .string s] w fun e w' => e = .returned (.tuple #[.int .i64 s.size, .nilIface]) ∧ Bd B b (l ++ s.data.toList) w' ∧ Below B w w' ∧ Kept b w w' := by
  have k := Any.Builder_WriteString_k { Tryd.lays230 with } Tryd.Builder_Extra_230 B b (Lib.byteCells l) s w h (by rw [Lib.byteCells_length]; omega) hB
  change Calls Tryd.prog 22 _ _ _ at k
  refine k.mono fun e w' ⟨he, h1, h2, h3⟩ => ⟨he, ?_, h2, h3⟩
  unfold Bd
  rw [Lib.byteCells_append]
  exact .inr h1

theorem writeRune_s (B b : Nat) (l : List UInt8) (c : UInt8) (w : World) (h : Bd B b l w) (hl : l.length ≤ 100000000) (hc : c.toNat < 128) (hB : B ≤ w.heap.size) :
    Calls Tryd.prog 53 #[.pointer (some ⟨b, 0, none⟩), .int .i32 (c.toNat : Int)] w fun e w' => e = .returned (.tuple #[.int .i64 1, .nilIface]) ∧ Bd B b (l ++ [c]) w' ∧ Below B w w' ∧ Kept b w w' := by
  have k := Any.Builder_WriteRune_k { Tryd.lays230 with } Tryd.Builder_Extra_230 B b (Lib.byteCells l) (c.toNat : Int) (by omega) (by omega) w h (by rw [Lib.byteCells_length]; omega) hB
  have e1 : Lib.runeCells (c.toNat : Int) = [.int .u8 (c.toNat : Int)] := by rw [Lib.runeCells, Lib.encodeRuneZ_one (by omega) (by omega)]; rfl
  rw [e1] at k
  change Calls Tryd.prog 53 _ _ _ at k
  refine k.mono fun e w' ⟨he, h1, h2, h3⟩ => ⟨he, ?_, h2, h3⟩
  unfold Bd
  rw [Lib.byteCells_append]
  exact .inr h1

theorem string_s (B b : Nat) (l : List UInt8) (w : World) (h : Bd B b l w) (hB : B ≤ w.heap.size) :
    Calls Tryd.prog 23 #[.pointer (some ⟨b, 0, none⟩)] w fun e w' => ∃ r : ByteArray, e = .returned (.string r) ∧ r.data.toList = l ∧ Below B w w' := by
  have k := Any.Builder_String_any_k { Tryd.lays230 with } Tryd.Builder_Extra_230 B b l w h hB
  change Calls Tryd.prog 23 _ _ _ at k
  exact k.mono fun e w' ⟨he, _, h2, _⟩ => ⟨_, he, by simp, h2⟩
end Go.Proofs.YtliadhpnkgpemaaDoor
