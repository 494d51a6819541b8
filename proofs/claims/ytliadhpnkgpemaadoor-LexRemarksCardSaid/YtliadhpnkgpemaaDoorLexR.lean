/-
  strings.Map with the law's own mapping, HasSuffix, the builder's Len and String: the library's contracts in these texts' own words; the tables of unicode/utf8 as the row lays them.
-/
import Derived.Test.YtliadhpnkgpemaaDoorLexM
import Derived.Test.YtliadhpnkgpemaaDoorShelf2
import Derived.Test.YtliadhpnkgpemaaDoorRows
import Derived.Lib.LaidU8
import Derived.PinnedBridge
namespace Go.Proofs.YtliadhpnkgpemaaDoor
open Go.RowKit
set_option maxRecDepth 100000

/-- unicode/utf8's two tables are as Go's text says -/
def U8w (w : World) : Prop := Lib.Utf8Tabs 1 2 w

theorem u8Extra : U8Extra Tryd.prog Tryd.lays260_ren := ⟨by kernel_rfl, by kernel_rfl, by kernel_rfl, by kernel_rfl, by kernel_rfl, by kernel_rfl, by kernel_rfl⟩
theorem u8w_of_laid {w : World} (h : laidMet Tryd.prog [("unicode/utf8.acceptRanges", Rows.laid_unicode_utf8_acceptRanges), ("unicode/utf8.first", Rows.laid_unicode_utf8_first)] w) : U8w w := by
  have h3 := Lib.laidMet.reads h (n := "unicode/utf8.first") (d := Lib.firstData) (by rw [← Pinned.utf8First_eq]; exact List.mem_cons_of_mem _ (List.mem_cons_self ..))
  have h4 := Lib.laidMet.reads h (n := "unicode/utf8.acceptRanges") (d := Lib.acceptData) (by rw [show Lib.acceptData = Rows.laid_unicode_utf8_acceptRanges from by kernel_rfl]; exact List.mem_cons_self ..)
  exact utf8Tabs_of_reads Tryd.lays260 u8Extra h3 h4

theorem mapping_ok (x : Int) (w : World) (h0 : 0 ≤ x) (h1 : x ≤ 1114111) : Calls Tryd.prog 21 #[.int .i32 x] w fun e w' => e = .returned (.int .i32 (lnF x)) ∧ Below w.heap.size w w' := by
  go_enter Tryd.func21, Tryd.ntmps21
  by_cases h : x = 10
  · subst h
    go_wp2
    go_ret
    exact ⟨rfl, Below.refl _ _⟩
  · have e : lnF x = x := by unfold lnF; rw [if_neg h]
    rw [e]
    clear e
    go_wp2
    go_ret
    exact ⟨rfl, Below.refl _ _⟩

theorem map_s (s : ByteArray) (w : World) (hs : s.size ≤ 1000000) (hT : U8w w) :
    Calls Tryd.prog 20 #[.func (.func 21) #[] #[], .string s] w fun e w' => ∃ r : ByteArray, e = .returned (.string r) ∧ r.data.toList = Lib.mapD lnF s.data.toList ∧ Below w.heap.size w w' := by
  have k := Any.strings_Map_grows Tryd.lays230 Tryd.Builder_Extra_230 21 #[] (enters_of Tryd.func21 (by kernel_rfl) rfl) lnF s w (by omega)
    (fun W x hx hb => mapping_ok (x : Int) W (by omega) (by omega)) (fun x hx => by unfold lnF; split <;> omega) hT
  change Calls Tryd.prog 20 _ _ _ at k
  exact k.mono fun e w' ⟨he, h2⟩ => ⟨_, he, by simp, h2⟩

theorem hasSuffix_s (s p : ByteArray) (w : World) (hs : s.size ≤ 1000000) : Calls Tryd.prog 19 #[.string s, .string p] w fun e w' => e = .returned (.bool (Lib.hasSuffix s.data.toList p.data.toList)) ∧ w' = w := Tryd.strings_HasSuffix s p w (by omega)

theorem len_s (B b : Nat) (l : List UInt8) (w : World) (h : Bd B b l w) : Calls Tryd.prog 24 #[.pointer (some ⟨b, 0, none⟩)] w fun e w' => e = .returned (.int .i64 l.length) ∧ w' = w := by
  have k := Any.Builder_Len_f Tryd.lays170 B b (Lib.byteCells l) w h
  change Calls Tryd.prog 24 _ _ _ at k
  rw [Lib.byteCells_length] at k
  exact k

theorem string2_s (B b : Nat) (l : List UInt8) (w : World) (h : Bd B b l w) (hB : B ≤ w.heap.size) :
    Calls Tryd.prog 23 #[.pointer (some ⟨b, 0, none⟩)] w fun e w' => ∃ r : ByteArray, e = .returned (.string r) ∧ r.data.toList = l ∧ Bd B b l w' ∧ Below B w w' := by
  have k := Any.Builder_String_any_k { Tryd.lays230 with } Tryd.Builder_Extra_230 B b l w h hB
  change Calls Tryd.prog 23 _ _ _ at k
  exact k.mono fun e w' ⟨he, h1, h2, _⟩ => ⟨_, he, by simp, h1, h2⟩
end Go.Proofs.YtliadhpnkgpemaaDoor
