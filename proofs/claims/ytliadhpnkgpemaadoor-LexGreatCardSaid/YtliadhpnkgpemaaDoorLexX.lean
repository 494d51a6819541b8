/-
  strings.ContainsAny at any text, of the four bytes that quote: contract.
-/
import Derived.Test.YtliadhpnkgpemaaDoorLexV
import Derived.Shelf.Strings.IndexAnyAll
import Derived.Lib.RuneCount
import Derived.Stop.FmtRuneSmall
namespace Go.Proofs.YtliadhpnkgpemaaDoor
open Go.RowKit
set_option maxRecDepth 100000

def marks4 : ByteArray := ⟨#[34, 39, 96, 42]⟩

theorem valid_ok (r : Int) (w : World) (h0 : 128 ≤ r) (h1 : r ≤ 1114111) : Calls Tryd.prog 97 #[.int .i32 r] w fun e w' => e = .returned (.bool (decide (r < 55296 ∨ 57343 < r))) ∧ w = w' := by
  go_enter Tryd.func97, Tryd.ntmps97
  by_cases h : r < 55296
  · have hd : decide (r < 55296 ∨ 57343 < r) = true := decide_eq_true (.inl h)
    rw [hd]
    clear hd
    go_wp2
    go_ret
    exact ⟨rfl, rfl⟩
  by_cases h2 : 57343 < r
  · have hd : decide (r < 55296 ∨ 57343 < r) = true := decide_eq_true (.inr h2)
    rw [hd]
    clear hd
    go_wp2
    go_ret
    exact ⟨rfl, rfl⟩
  · have hd : decide (r < 55296 ∨ 57343 < r) = false := decide_eq_false (by omega)
    rw [hd]
    clear hd
    go_wp2
    go_ret
    exact ⟨rfl, rfl⟩

theorem indexByte_not : ∀ (l : List UInt8) (c : UInt8), c ∉ l → Lib.indexByte l c = -1
  | [], _, _ => rfl
  | b :: l, c, h => by
    have hb : ¬ (b == c) = true := fun e => h (by rw [beq_iff_eq] at e; rw [e]; simp)
    have ih := indexByte_not l c (fun e => h (List.mem_cons_of_mem _ e))
    rw [Lib.indexByte, if_neg hb, ih, if_pos (by decide)]
theorem idxByte_marks (b : UInt8) (hb : 128 ≤ b.toNat) (i j : Nat) (w : World) : Calls Tryd.prog 31 #[.string ((⟨#[34, 39, 96, 42]⟩ : ByteArray).extract i j), .int .u8 (b.toNat : Int)] w fun e w' => e = .returned (.int .i64 (-1)) ∧ w' = w := by
  have h := indexByte_s ((⟨#[34, 39, 96, 42]⟩ : ByteArray).extract i j) b w
  rw [indexByte_not _ _ (by
    intro e
    rw [text_cut] at e
    have e2 := List.mem_of_mem_drop (List.mem_of_mem_take e)
    simp only [List.mem_cons, List.not_mem_nil, or_false] at e2
    rcases e2 with rfl | rfl | rfl | rfl <;> revert hb <;> decide)] at h
  exact h

set_option maxHeartbeats 2000000 in
theorem idxRune_ok (r : Int) (w : World) (h0 : 128 ≤ r) (h1 : r ≤ 1114111) (h2 : r ≠ 65533) :
    Calls Tryd.prog 84 #[.string ⟨#[34, 39, 96, 42]⟩, .int .i32 r] w fun e w' => e = .returned (.int .i64 (-1)) ∧ Below w.heap.size w w' := by
  have HV := Lib.hid (valid_ok r w h0 h1)
  by_cases hv : r < 55296 ∨ 57343 < r
  · rw [decide_eq_true hv] at HV
    have hval : Utf8.valid r = true := by
      simp [Utf8.valid]
      omega
    obtain ⟨f1, f2, f3⟩ := encode_facts r hval h0
    obtain ⟨en, hen⟩ : ∃ en, Utf8.encode r = en := ⟨_, rfl⟩
    rw [hen] at f1 f2 f3
    have hlast : ∃ b : UInt8, 128 ≤ b.toNat ∧ ∀ h : en.size - 1 < en.size, en[en.size - 1]'h = b := ⟨en[en.size - 1]'(by omega), f3 _, fun _ => rfl⟩
    obtain ⟨b, hb, hlast⟩ := hlast
    have HI := Lib.hid (fun i j u => idxByte_marks b hb i j u)
    clear f3 hval hv
    obtain ⟨m, hm⟩ : ∃ m, en.size = m := ⟨_, rfl⟩
    rw [hm] at f1 f2
    have hm3 : m = 2 ∨ m = 3 ∨ m = 4 := by omega
    clear f1 f2
    rcases hm3 with rfl | rfl | rfl
    · simp only [hm] at hlast
      go_enter Tryd.func84, Tryd.ntmps84
      go_wp2_with fail
      refine HV.out.mono ?_
      rintro e w1 ⟨rfl, rfl⟩
      clear HV
      go_wp2_with fail
      go_step3
      go_wp2_with fail
      go_loopw [9, 10] (fun i f wr => i = .int .i64 1 ∧ f = .int .i64 0 ∧ Below w.heap.size w wr) (fun _ _ _ => 0)
      case atStart => exact ⟨rfl, rfl, Below.refl _ _⟩
      case round =>
        obtain ⟨rfl, rfl, kw⟩ := hrel
        have hl1 : ∀ h, en[1]'h = b := fun h => hlast (by omega)
        have hwr : IntKind.i64.wrap 2 = 2 := by decide
        have hd1 : ∀ h, ((((⟨#[34, 39, 96, 42]⟩ : ByteArray)[1]'h).toNat : Int) != (b.toNat : Int)) = true := fun h => by
          have e1 : (⟨#[34, 39, 96, 42]⟩ : ByteArray)[1]'h = 39 := rfl
          rw [e1]
          simp only [bne_iff_ne, ne_eq]
          intro e2
          have e3 : ((39 : UInt8).toNat : Int) = 39 := by decide
          omega
        go_wp2_with fail
        go_step3
        go_wp2_with fail
        go_quiet (fail)
        go_wp2_with fail
        go_quiet (first | (go_at_call 31; exact (HI.out 2 4 _).mono fun _ _ ⟨he, hw⟩ => ⟨he, _, hw⟩))
        go_wp2_with fail
        change bodyPost Tryd.prog Tryd.f84 (fun e w' => e = Ending.returned (Value.int IntKind.i64 (-1)) ∧ Below w.heap.size w w') Exit.ret _ _
        go_ret
        exact ⟨rfl, below_drewN kw _⟩
    · simp only [hm] at hlast
      go_enter Tryd.func84, Tryd.ntmps84
      go_wp2_with fail
      refine HV.out.mono ?_
      rintro e w1 ⟨rfl, rfl⟩
      clear HV
      go_wp2_with fail
      go_step3
      go_wp2_with fail
      go_loopw [9, 10] (fun i f wr => i = .int .i64 2 ∧ f = .int .i64 0 ∧ Below w.heap.size w wr) (fun _ _ _ => 0)
      case atStart => exact ⟨rfl, rfl, Below.refl _ _⟩
      case round =>
        obtain ⟨rfl, rfl, kw⟩ := hrel
        have hl1 : ∀ h, en[2]'h = b := fun h => hlast (by omega)
        have hwr : IntKind.i64.wrap 3 = 3 := by decide
        have hd1 : ∀ h, ((((⟨#[34, 39, 96, 42]⟩ : ByteArray)[2]'h).toNat : Int) != (b.toNat : Int)) = true := fun h => by
          have e1 : (⟨#[34, 39, 96, 42]⟩ : ByteArray)[2]'h = 96 := rfl
          rw [e1]
          simp only [bne_iff_ne, ne_eq]
          intro e2
          have e3 : ((96 : UInt8).toNat : Int) = 96 := by decide
          omega
        go_wp2_with fail
        go_step3
        go_wp2_with fail
        go_quiet (fail)
        go_wp2_with fail
        go_quiet (first | (go_at_call 31; exact (HI.out 3 4 _).mono fun _ _ ⟨he, hw⟩ => ⟨he, _, hw⟩))
        go_wp2_with fail
        change bodyPost Tryd.prog Tryd.f84 (fun e w' => e = Ending.returned (Value.int IntKind.i64 (-1)) ∧ Below w.heap.size w w') Exit.ret _ _
        go_ret
        exact ⟨rfl, below_drewN kw _⟩
    · simp only [hm] at hlast
      go_enter Tryd.func84, Tryd.ntmps84
      go_wp2_with fail
      refine HV.out.mono ?_
      rintro e w1 ⟨rfl, rfl⟩
      clear HV
      go_wp2_with fail
      go_step3
      go_wp2_with fail
      go_loopw [9, 10] (fun i f wr => i = .int .i64 3 ∧ f = .int .i64 0 ∧ Below w.heap.size w wr) (fun _ _ _ => 0)
      case atStart => exact ⟨rfl, rfl, Below.refl _ _⟩
      case round =>
        obtain ⟨rfl, rfl, kw⟩ := hrel
        have hl1 : ∀ h, en[3]'h = b := fun h => hlast (by omega)
        have hwr : IntKind.i64.wrap 4 = 4 := by decide
        have hd1 : ∀ h, ((((⟨#[34, 39, 96, 42]⟩ : ByteArray)[3]'h).toNat : Int) != (b.toNat : Int)) = true := fun h => by
          have e1 : (⟨#[34, 39, 96, 42]⟩ : ByteArray)[3]'h = 42 := rfl
          rw [e1]
          simp only [bne_iff_ne, ne_eq]
          intro e2
          have e3 : ((42 : UInt8).toNat : Int) = 42 := by decide
          omega
        go_wp2_with fail
        go_step3
        go_wp2_with fail
        go_quiet (fail)
        go_wp2_with fail
        go_quiet (first | (go_at_call 31; exact (HI.out 4 4 _).mono fun _ _ ⟨he, hw⟩ => ⟨he, _, hw⟩))
        go_wp2_with fail
        change bodyPost Tryd.prog Tryd.f84 (fun e w' => e = Ending.returned (Value.int IntKind.i64 (-1)) ∧ Below w.heap.size w w') Exit.ret _ _
        go_ret
        exact ⟨rfl, below_drewN kw _⟩
  · rw [decide_eq_false hv] at HV
    go_enter Tryd.func84, Tryd.ntmps84
    go_wp2_with fail
    refine HV.out.mono ?_
    rintro e w1 ⟨rfl, rfl⟩
    clear HV
    go_wp2_with fail
    go_ret
    exact ⟨rfl, Below.refl _ _⟩

set_option maxHeartbeats 2000000 in
theorem idxRune_bad (w : World) :
    Calls Tryd.prog 84 #[.string ⟨#[34, 39, 96, 42]⟩, .int .i32 65533] w fun e w' => e = .returned (.int .i64 (-1)) ∧ Below w.heap.size w w' := by
  obtain ⟨ms, hms⟩ : ∃ ms : ByteArray, ms = ⟨#[34, 39, 96, 42]⟩ := ⟨_, rfl⟩
  rw [← hms]
  have hsz : ms.size = 4 := by rw [hms]; rfl
  have hlow : ∀ (j : Nat) (h : j < ms.size), (ms[j]'h).toNat < 128 := by
    subst hms
    intro j h
    have h4 : j < 4 := h
    match j, h4 with
    | 0, _ => show ((34 : UInt8)).toNat < 128; decide
    | 1, _ => show ((39 : UInt8)).toNat < 128; decide
    | 2, _ => show ((96 : UInt8)).toNat < 128; decide
    | 3, _ => show ((42 : UInt8)).toNat < 128; decide
  have HL := Lib.hid hlow
  have HS := Lib.hid hsz
  clear hms hlow hsz
  go_enter Tryd.func84, Tryd.ntmps84
  go_wp2_with fail
  go_loopw [] (fun wr => ∃ (pos : Nat), pos ≤ ms.size ∧ wr.heap[w.heap.size]? = some (.stringIter ms pos) ∧ Below w.heap.size w wr) (fun wr => ms.size - wr.iterPos w.heap.size)
  case atStart => exact ⟨0, Nat.zero_le _, World.iter_heap w ms 0, (Below.refl _ w).alloc (Nat.le_refl _) _⟩
  case round =>
    obtain ⟨pos, hle, hit, hbw⟩ := hrel
    have hsz : w.heap.size < wr.heap.size := (Array.getElem?_eq_some_iff.1 hit).1
    by_cases hp : pos < ms.size
    · have hb := HL.out pos hp
      have hnx0 := fun ty => Lib.run_next_ascii_at (P := Tryd.prog) wr w.heap.size ms pos ty hit hp hb
      generalize (ms[pos]'hp) = c at hb hnx0
      have hit2 := Lib.iterAt_heap wr w.heap.size ms pos (pos + 1) hit
      have hbw2 := Lib.below_iterAt hbw (k := w.heap.size) (Nat.le_refl _) ms (pos + 1)
      have hd : ((c.toNat : Int) == 65533) = false := beq_eq_false_iff_ne.2 (by omega)
      go_wp2_with fail
      go_roundw
      case rel => exact ⟨pos + 1, by omega, hit2, hbw2⟩
      case measure =>
        simp only [World.iterPos, hit2, hit]
        omega
    · have hnx : ∀ ty, (Instr.next (.pointer (some ⟨w.heap.size, 0, none⟩)) true ty).run Tryd.prog wr = _ := fun ty => Lib.run_next_end_at wr w.heap.size ms pos ty hit hp
      go_wp2_with fail
      go_ret
      exact ⟨rfl, hbw⟩

theorem idxRune_any (r : Nat) (w : World) (h : r ≤ 1114111) :
    Calls Tryd.prog 84 #[.string ⟨#[34, 39, 96, 42]⟩, .int .i32 (r : Int)] w fun e w' => ∃ i : Int, e = .returned (.int .i64 i) ∧ Below w.heap.size w w' := by
  by_cases h1 : r < 128
  · have k := Any.strings_IndexRune_ascii { Tryd.lays153 with } ⟨#[34, 39, 96, 42]⟩ (r : Int) w (by omega) (by omega)
    change Calls Tryd.prog 84 _ _ _ at k
    exact k.mono fun e w' ⟨he, hw⟩ => ⟨_, he, hw ▸ Below.refl _ _⟩
  by_cases h2 : (r : Int) = 65533
  · rw [h2]
    exact (idxRune_bad w).mono fun e w' ⟨he, hw⟩ => ⟨_, he, hw⟩
  · exact (idxRune_ok (r : Int) w (by omega) (by omega) h2).mono fun e w' ⟨he, hw⟩ => ⟨_, he, hw⟩

set_option maxHeartbeats 2000000 in
theorem idxAny_short (s : ByteArray) (w : World) (h8 : s.size ≤ 8) :
    Calls Tryd.prog 56 #[.string s, .string ⟨#[34, 39, 96, 42]⟩] w fun e w' => ∃ i : Int, e = .returned (.int .i64 i) ∧ Below w.heap.size w w' := by
  have hS := fun u => Any.strings_shouldUseASCIISet { Tryd.lays153 with } (s.size : Int) u
  have h8z : decide ((8 : Int) < (s.size : Int)) = false := decide_eq_false (by omega)
  rw [h8z] at hS
  change ∀ u, Calls Tryd.prog 85 _ u _ at hS
  have HS := Lib.hid hS
  clear hS h8z
  go_enter Tryd.func56, Tryd.ntmps56
  go_wp2_with fail
  refine (HS.out _).mono ?_
  rintro e w1 ⟨rfl, hw⟩
  obtain rfl : w = w1 := hw.symm
  go_wp2_with fail
  go_loopw [] (fun wr => ∃ (pos : Nat), wr.heap[w.heap.size]? = some (.stringIter s pos) ∧ Below w.heap.size w wr) (fun wr => s.size - wr.iterPos w.heap.size)
  case atStart => exact ⟨0, World.iter_heap w s 0, (Below.refl _ w).alloc (Nat.le_refl _) _⟩
  case round =>
    obtain ⟨pos, hit, hbw⟩ := hrel
    have hsz : w.heap.size < wr.heap.size := (Array.getElem?_eq_some_iff.1 hit).1
    by_cases hp : pos < s.size
    · have hnx0 := fun ty => Lib.run_next_any_at (P := Tryd.prog) wr w.heap.size s pos ty hit hp
      have hwd := Lib.decode_width_pos s pos hp
      have hmx := decode_max s pos
      generalize (Utf8.decode s pos).1 = r at hnx0 hmx
      generalize (Utf8.decode s pos).2 = d at hnx0 hwd
      have hit2 := Lib.iterAt_heap wr w.heap.size s pos (pos + d) hit
      have hbw2 := Lib.below_iterAt hbw (k := w.heap.size) (Nat.le_refl _) s (pos + d)
      have HR := Lib.hid (idxRune_any r (wr.iterAt w.heap.size s (pos + d)) hmx)
      go_wp2_with fail
      refine HR.out.mono ?_
      rintro e w2 ⟨i, rfl, k2⟩
      have hit3 : w2.heap[w.heap.size]? = some (.stringIter s (pos + d)) := (k2.block _ (by rw [Lib.iterAt_size]; exact hsz)).trans hit2
      have hbw3 := hbw2.trans (k2.mono (by rw [Lib.iterAt_size]; omega))
      by_cases hi : 0 ≤ i
      · go_wp2_with fail
        go_ret
        exact ⟨_, rfl, hbw3⟩
      · go_wp2_with fail
        go_roundw
        case rel => exact ⟨pos + d, hit3, hbw3⟩
        case measure =>
          simp only [World.iterPos, hit3, hit]
          omega
    · have hnx : ∀ ty, (Instr.next (.pointer (some ⟨w.heap.size, 0, none⟩)) true ty).run Tryd.prog wr = _ := fun ty => Lib.run_next_end_at wr w.heap.size s pos ty hit hp
      go_wp2_with fail
      go_ret
      exact ⟨_, rfl, hbw⟩
end Go.Proofs.YtliadhpnkgpemaaDoor
