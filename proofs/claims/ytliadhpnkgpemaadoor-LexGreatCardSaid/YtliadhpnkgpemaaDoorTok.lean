/-
  Rows of tokens as they lie in memory: of whatever package's token type.
-/
import Derived.Test.YtliadhpnkgpemaaDoorLexE
import Derived.Test.YtliadhpnkgpemaaDoorWide
namespace Go.Proofs.YtliadhpnkgpemaaDoor
open Go.RowKit
set_option maxRecDepth 100000

/-- a token: its Kind, its Text -/
structure Tk where
  k : Int
  t : ByteArray
deriving DecidableEq
instance : Inhabited Tk := ⟨⟨0, ⟨#[]⟩⟩⟩
def Tk.cells (t : Tk) : List Value := [.int .i64 t.k, .string t.t]
def tkC (ts : List Tk) : List Value := ts.flatMap Tk.cells
def Tk.says (t : Tk) : Int × List UInt8 := (t.k, t.t.data.toList)
def saysT (ts : List Tk) : List (Int × List UInt8) := ts.map Tk.says
theorem Tk.says_inj {a b : Tk} (h : a.says = b.says) : a = b := by
  cases a; cases b
  simp only [Tk.says, Prod.mk.injEq] at h
  rw [h.1, text_ext h.2]
theorem saysT_inj : ∀ {a b : List Tk}, saysT a = saysT b → a = b
  | [], [], _ => rfl
  | [], _ :: _, h => by simp [saysT] at h
  | _ :: _, [], h => by simp [saysT] at h
  | x :: a, y :: b, h => by
    simp only [saysT, List.map_cons, List.cons.injEq] at h
    rw [Tk.says_inj h.1, saysT_inj h.2]
theorem saysT_append (a b : List Tk) : saysT (a ++ b) = saysT a ++ saysT b := by simp [saysT]
theorem saysT_length (a : List Tk) : (saysT a).length = a.length := by simp [saysT]
theorem tkC_length : ∀ ts : List Tk, (tkC ts).length = ts.length * 2
  | [] => rfl
  | r :: rs => by
    have := tkC_length rs
    simp only [tkC, List.flatMap_cons, List.length_append, List.length_cons, Tk.cells, List.length_nil] at this ⊢
    omega
theorem tkC_append (a b : List Tk) : tkC (a ++ b) = tkC a ++ tkC b := by simp [tkC]
theorem tkC_at : ∀ (rs : List Tk) (j : Nat) (h : j < rs.length), (tkC rs)[j * 2]? = some (.int .i64 rs[j].k) ∧ (tkC rs)[j * 2 + 1]? = some (.string rs[j].t)
  | [], _, h => by simp at h
  | r :: rs, 0, _ => by simp [tkC, Tk.cells]
  | r :: rs, j + 1, h => by
    have := tkC_at rs j (by simpa using h)
    have e1 : (j + 1) * 2 = j * 2 + 2 := by omega
    simp only [tkC, List.flatMap_cons] at this ⊢
    rw [e1]
    simpa [Tk.cells] using this
theorem tkC_next (rs : List Tk) (k : Nat) (h : k < rs.length) : tkC (rs.take (k + 1)) = tkC (rs.take k) ++ [.int .i64 rs[k].k, .string rs[k].t] := by
  rw [List.take_succ_eq_append_getElem h, tkC_append]
  simp [tkC, Tk.cells]
theorem tkC_one (rs : List Tk) : ∀ u ∈ tkC rs, u.oneCell' = true := by
  intro u hu
  simp only [tkC, List.mem_flatMap] at hu
  obtain ⟨r, _, h⟩ := hu
  simp only [Tk.cells, List.mem_cons, List.not_mem_nil, or_false] at h
  rcases h with rfl | rfl <;> rfl
theorem Rd.of_ownT {w : World} {A : Option Addr} {xs : List Value} {base n c : Nat} {e : TypeId} (h : w.ownsRow base e 2 (.slice A n c) n xs) : Rd w w.heap.size A xs := by
  rcases h.2 with ⟨_, hn⟩ | ⟨g, cap, cur, hv, _, hg, _⟩
  · exact .inl (List.eq_nil_of_length_eq_zero (by have := h.1; omega))
  · have hA : A = some ⟨g, 0, none⟩ := by injection hv
    subst hA
    exact .inr ⟨_, rfl, (Array.getElem?_eq_some_iff.1 hg).1, h.cells (g := g) rfl⟩

/-- a row of tokens that is read -/
structure TR (w : World) (A : Option Addr) (n : Nat) (ts : List Tk) : Prop where
  len : ts.length = n
  rd : Rd w w.heap.size A (tkC ts)
theorem TR.next {w w' : World} {A : Option Addr} {n : Nat} {ts : List Tk} (h : TR w A n ts) (hb : Below w.heap.size w w') : TR w' A n ts := ⟨h.len, (h.rd.below hb (Nat.le_refl _)).more hb.size⟩
theorem TR.nil (w : World) : TR w none 0 [] := ⟨rfl, .inl rfl⟩
/-- its cells at a place -/
theorem TR.at_ {w : World} {A : Option Addr} {n : Nat} {ts : List Tk} (h : TR w A n ts) {j : Nat} (hj : j < ts.length) : ∃ ad, A = some ad ∧ ad.block < w.heap.size ∧ ∀ w', Below w.heap.size w w' → w'.cell? (ad.add (j * 2)) = some (.int .i64 ts[j].k) ∧ w'.cell? ⟨(ad.add (j * 2)).block, (ad.add (j * 2)).off + 1, none⟩ = some (.string ts[j].t) := by
  obtain ⟨ad, hA, hb, hc⟩ := h.rd.addr (by rw [tkC_length]; omega)
  refine ⟨ad, hA, hb, fun w' hw => ⟨?_, ?_⟩⟩
  · rw [hw.cell (by rw [add_block]; exact hb)]; exact hc _ _ (tkC_at ts j hj).1
  · have e1 : (⟨(ad.add (j * 2)).block, (ad.add (j * 2)).off + 1, none⟩ : Addr) = ad.add (j * 2 + 1) := by rw [← add_add]; rfl
    rw [e1, hw.cell (by rw [add_block]; exact hb)]; exact hc _ _ (tkC_at ts j hj).2

/-- a row of tokens of the call's own -/
structure OT (e : TypeId) (w : World) (base : Nat) (A : Option Addr) (n c : Nat) (ts : List Tk) : Prop where
  own : w.ownsRow base e 2 (.slice A n c) n (tkC ts)
  cap : n ≤ c
section
variable {e : TypeId} {w : World} {base : Nat} {A : Option Addr} {n c : Nat} {ts : List Tk}
theorem OT.len (h : OT e w base A n c ts) : ts.length = n := by
  have := h.own.1
  rw [tkC_length] at this
  omega
theorem OT.tr (h : OT e w base A n c ts) : TR w A n ts := ⟨h.len, Rd.of_ownT h.own⟩
theorem OT.next {w' : World} (h : OT e w base A n c ts) (hb : Below w.heap.size w w') : OT e w' base A n c ts := ⟨own_below_s h.own hb (Nat.le_refl _), h.cap⟩
theorem OT.nil (e : TypeId) (w : World) (base : Nat) : OT e w base none 0 0 [] := ⟨World.ownsRow_nil _ _ _ _, Nat.le_refl _⟩
theorem OT.push {v : Value} {k : Int} {r : ByteArray} (h : w.ownsRow base e 2 v (n + 1) (tkC ts ++ [.int .i64 k, .string r])) : ∃ A c, v = .slice A (n + 1) c ∧ OT e w base A (n + 1) c (ts ++ [⟨k, r⟩]) := by
  obtain ⟨A, c, rfl, h1, _⟩ := own_form_s h
  exact ⟨A, c, rfl, by rw [tkC_append]; exact h, h1⟩
end
theorem tkinfo : (Tryd.prog.info? 24).map (fun i => (i.zero, i.size, i.bytes)) = some (some (.agg #[.int .i64 0, .string ⟨#[]⟩]), 2, 24) := by kernel_rfl
theorem tkinfoR : (Tryd.prog.info? 37).map (fun i => (i.zero, i.size, i.bytes)) = some (some (.agg #[.int .i64 0, .string ⟨#[]⟩]), 2, 24) := by kernel_rfl
end Go.Proofs.YtliadhpnkgpemaaDoor
