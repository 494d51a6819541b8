/-
  The calls whose answers the document fixes, at layer 4: they answer so.
-/
import Derived.Test.YtliadhpnkgpemaaDoorRfK
import Derived.KernelRfl
namespace Go.Proofs.YtliadhpnkgpemaaDoor
open Go.RowKit
set_option maxRecDepth 100000

theorem lex_a1 : lexF [115, 101, 108, 101, 99, 116, 32, 39, 97, 39, 39, 98, 39, 45, 45, 120] = some [(1, [83, 69, 76, 69, 67, 84]), (3, [97, 39, 98])] := by
  rw [lexF_tok (k := 1) (t := [83, 69, 76, 69, 67, 84]) (n := 6) (by simp) (by kernel_rfl) (by decide)]
  simp only [List.drop_succ_cons, List.drop_zero]
  rw [lexF_skip (n := 1) (by simp) (by kernel_rfl) (by decide)]
  simp only [List.drop_succ_cons, List.drop_zero]
  rw [lexF_tok (k := 3) (t := [97, 39, 98]) (n := 6) (by simp) (by kernel_rfl) (by decide)]
  simp only [List.drop_succ_cons, List.drop_zero]
  rw [lexF_skip (n := 3) (by simp) (by kernel_rfl) (by decide)]
  simp only [List.drop_succ_cons, List.drop_zero]
  rw [lexF_nil]
  rfl
theorem lex_a2 : lexF [39] = none := lexF_bad (by simp) (by kernel_rfl)
theorem lex_a3 : lexF [47, 42, 43, 32, 112, 114, 105, 109, 97, 114, 121, 32, 42, 47, 32, 55] = some [(5, [112, 114, 105, 109, 97, 114, 121]), (4, [55])] := by
  rw [lexF_tok (k := 5) (t := [112, 114, 105, 109, 97, 114, 121]) (n := 14) (by simp) (by kernel_rfl) (by decide)]
  simp only [List.drop_succ_cons, List.drop_zero]
  rw [lexF_skip (n := 1) (by simp) (by kernel_rfl) (by decide)]
  simp only [List.drop_succ_cons, List.drop_zero]
  rw [lexF_tok (k := 4) (t := [55]) (n := 1) (by simp) (by kernel_rfl) (by decide)]
  simp only [List.drop_succ_cons, List.drop_zero]
  rw [lexF_nil]
  rfl
theorem lexA_some {l : List UInt8} {y : List (Int × List UInt8)} (h : lexF l = some y) (hl : l.length ≤ 200) : lexA l = (y, 0) := by
  unfold lexA
  rw [if_neg (by omega), h]
theorem lexA_none {l : List UInt8} (h : lexF l = none) (hl : l.length ≤ 200) : lexA l = ([], 2) := by
  unfold lexA
  rw [if_neg (by omega), h]

theorem row2 (w : World) (e : TypeId) (a b : Tk) : TR (w.alloc (.cells #[.int .i64 a.k, .string a.t, .int .i64 b.k, .string b.t] e)) (some ⟨w.heap.size, 0, none⟩) 2 [a, b] :=
  ⟨rfl, by
    have := Rd.new w e (tkC [a, b])
    simpa [tkC, Tk.cells] using this⟩

set_option maxHeartbeats 4000000 in
theorem awake4 (w : World) (hL : Lw w) : Calls Tryd.prog 6 #[] w fun e w' => e = .returned (.bool true) ∧ Below w.heap.size w w' := by
  have h1 := lex_ok ⟨#[115, 101, 108, 101, 99, 116, 32, 39, 97, 39, 39, 98, 39, 45, 45, 120]⟩ w (by decide) hL
  unfold LexTo at h1
  rw [lexA_some (l := (⟨#[115, 101, 108, 101, 99, 116, 32, 39, 97, 39, 39, 98, 39, 45, 45, 120]⟩ : ByteArray).data.toList) lex_a1 (by decide)] at h1
  have H1 := Lib.hid h1
  clear h1
  go_enter Tryd.func6, Tryd.ntmps6
  go_wp2_with fail
  refine H1.out.mono ?_
  rintro e w1 ⟨A1, n1, c1, er1, ts1, rfl, ho1, hs1, k1⟩
  simp only [Prod.mk.injEq] at hs1
  obtain ⟨hs1, rfl⟩ := hs1
  have h2 := lex_ok ⟨#[39]⟩ w1 (by decide) (hL.next k1)
  unfold LexTo at h2
  rw [lexA_none (l := (⟨#[39]⟩ : ByteArray).data.toList) lex_a2 (by decide)] at h2
  have H2 := Lib.hid h2
  clear h2 H1
  go_wp2_with fail
  refine H2.out.mono ?_
  rintro e w2 ⟨A2, n2, c2, er2, ts2, rfl, ho2, hs2, k2⟩
  simp only [Prod.mk.injEq] at hs2
  obtain ⟨hs2, rfl⟩ := hs2
  have kw2 := kp_trans k1 k2
  have h3 := lex_ok ⟨#[47, 42, 43, 32, 112, 114, 105, 109, 97, 114, 121, 32, 42, 47, 32, 55]⟩ w2 (by decide) (hL.next kw2)
  unfold LexTo at h3
  rw [lexA_some (l := (⟨#[47, 42, 43, 32, 112, 114, 105, 109, 97, 114, 121, 32, 42, 47, 32, 55]⟩ : ByteArray).data.toList) lex_a3 (by decide)] at h3
  have H3 := Lib.hid h3
  clear h3 H2
  go_wp2_with fail
  refine H3.out.mono ?_
  rintro e w3 ⟨A3, n3, c3, er3, ts3, rfl, ho3, hs3, k3⟩
  simp only [Prod.mk.injEq] at hs3
  obtain ⟨hs3, rfl⟩ := hs3
  have kw3 := kp_trans kw2 k3
  have ht1 : ts1 = [⟨1, ⟨#[83, 69, 76, 69, 67, 84]⟩⟩, ⟨3, ⟨#[97, 39, 98]⟩⟩] := saysT_inj hs1
  have ht3 : ts3 = [⟨5, ⟨#[112, 114, 105, 109, 97, 114, 121]⟩⟩, ⟨4, ⟨#[55]⟩⟩] := saysT_inj hs3
  subst ht1 ht3
  have l1 : n1 = 2 := ho1.len.symm
  have l3 : n3 = 2 := ho3.len.symm
  subst l1 l3
  have r1 := (ho1.next (kp_trans k2 k3)).tr
  have r3 := ho3.tr
  have hT1 := tokens_ok A1 2 c1 _ w3 r1 (by decide)
  have HT1 := Lib.hid hT1
  clear hs1 hs2 hs3 hT1 H3 ho1 ho2 ho3 k1 k2 k3 kw2
  go_wp2_with fail
  refine HT1.out.mono ?_
  rintro e w4 ⟨A4, c4, rfl, r4, k4⟩
  have hx4 := row2 w4 37 ⟨1, ⟨#[83, 69, 76, 69, 67, 84]⟩⟩ ⟨3, ⟨#[97, 39, 98]⟩⟩
  have k4' := kp_new w4 (.cells #[.int .i64 1, .string ⟨#[83, 69, 76, 69, 67, 84]⟩, .int .i64 3, .string ⟨#[97, 39, 98]⟩] 37)
  have hS := tsame_ok A4 _ 2 2 c4 2 _ _ _ (r4.next k4') hx4 (by decide) (by decide) true (Lib.hid (by decide))
  have HS := Lib.hid hS
  clear hS HT1
  go_wp2_with fail
  refine HS.out.mono ?_
  rintro e w5 ⟨rfl, k5⟩
  have k35 := kp_trans k4 (kp_trans k4' k5)
  have hT3 := tokens_ok A3 2 c3 _ w5 (r3.next k35) (by decide)
  have HT3 := Lib.hid hT3
  clear HS hT3
  go_wp2_with fail
  refine HT3.out.mono ?_
  rintro e w6 ⟨A6, c6, rfl, r6, k6⟩
  have hx6 := row2 w6 37 ⟨5, ⟨#[112, 114, 105, 109, 97, 114, 121]⟩⟩ ⟨4, ⟨#[55]⟩⟩
  have k6' := kp_new w6 (.cells #[.int .i64 5, .string ⟨#[112, 114, 105, 109, 97, 114, 121]⟩, .int .i64 4, .string ⟨#[55]⟩] 37)
  have hS := tsame_ok A6 _ 2 2 c6 2 _ _ _ (r6.next k6') hx6 (by decide) (by decide) true (Lib.hid (by decide))
  have HS := Lib.hid hS
  clear hS HT3
  go_wp2_with fail
  refine HS.out.mono ?_
  rintro e w7 ⟨rfl, k7⟩
  have k37 := kp_trans k35 (kp_trans k6 (kp_trans k6' k7))
  have kw7 := kp_trans kw3 k37
  have hR := right_ok 6 ⟨#[45]⟩ w7 (by decide) (hL.next kw7)
  unfold RightTo at hR
  rw [show rightF 6 (⟨#[45]⟩ : ByteArray).data.toList = true from by decide +kernel] at hR
  have HR := Lib.hid hR
  clear HS hR
  go_wp2_with fail
  refine HR.out.mono ?_
  rintro e w8 ⟨rfl, k8⟩
  have kw8 := kp_trans kw7 k8
  have hW := write_ok A1 2 c1 _ w8 (r1.next (kp_trans k37 k8)) (by decide) (hL.next kw8)
  have HW := Lib.hid hW
  clear HR hW
  go_wp2_with fail
  refine HW.out.mono ?_
  rintro e w9 ⟨r, rfl, hr, k9⟩
  have hr2 : r = ⟨#[83, 69, 76, 69, 67, 84, 32, 39, 97, 39, 39, 98, 39]⟩ := text_ext (by rw [hr]; decide +kernel)
  subst hr2
  clear HW
  go_wp2_with fail
  go_ret
  exact ⟨rfl, kp_trans kw8 k9⟩
end Go.Proofs.YtliadhpnkgpemaaDoor
