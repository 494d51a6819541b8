/-
  Contracts and plain functions that the law stands on, part 4 of 4.
-/
import Derived.Test.YtedfclknpebpaaaGreatDoorQS3
import Derived.Test.YtedfclknpebpaaaGreatDoorShelf2
import Derived.Test.YtedfclknpebpaaaGreatDoorRows
import Derived.Lib.LaidU8
import Derived.PinnedBridge
import Derived.Shelf.Strings.BuilderK
import Derived.Shelf.RegionOpenPlain
import Derived.Test.YtedfclknpebpaaaGreatDoorShelf3
import Derived.Shelf.Strings.OnBuilder
import Derived.ProofKit
import Derived.OpenShut
import Derived.JoinedCond
import Derived.Deep.Slices
import Derived.Lib.SmallJoins
import Derived.SizedLaws
import Derived.Test.YtedfclknpebpaaaGreatDoorCards
import Derived.Test.YtedfclknpebpaaaGreatDoorTie
import Derived.Shelf.Vars
import Derived.SevenTiedAt
import Derived.Stop.Joined
import Derived.LaidMore
import Derived.Lay
import Derived.Handed
namespace Go.Proofs.YtedfclknpebpaaaGreatDoor
/- Texts that say tokens, one behind the other: what is written of tokens, in small letters, with remarks, blanks and signs ; between and behind (no function of the program is named here). -/
section
open Go.RowKit
set_option maxRecDepth 100000

/-- whatever stands behind: these tokens come first -/
def Says (p : List UInt8) (ts : List Tok) : Prop := ∀ rest, lexF (p ++ rest) = (lexF rest).map (ts ++ ·)
theorem Says.nil : Says [] [] := fun rest => by
  rw [List.nil_append]
  cases lexF rest <;> simp
theorem Says.add {p q : List UInt8} {a b : List Tok} (h : Says p a) (k : Says q b) : Says (p ++ q) (a ++ b) := fun rest => by
  rw [List.append_assoc, h, k]
  cases lexF rest <;> simp
theorem Says.lex {p : List UInt8} {ts : List Tok} (h : Says p ts) : lexF p = some ts := by
  have := h []
  rw [List.append_nil, lexF_nil] at this
  simpa using this
theorem Says.then_ {p l : List UInt8} {ts us : List Tok} (h : Says p ts) (k : lexF l = some us) : lexF (p ++ l) = some (ts ++ us) := by
  rw [h, k]
  rfl
theorem says_blank (b : UInt8) (hb : blankF b = true) : Says [b] [] := fun rest => by
  rw [List.singleton_append, lexF_blank b rest hb]
  cases lexF rest <;> simp
theorem says_remark : Says [47, 42, 59, 42, 47] [] := fun rest => by
  have hs : stepF (47 :: 42 :: 59 :: 42 :: 47 :: rest) = .skip 5 := by
    have hidx : Lib.index (59 :: 42 :: 47 :: rest) ends2 = 1 := by
      have := index_behind [59] 42 (47 :: rest) (by decide) (by decide) (by rw [index_here]; omega)
      rw [List.singleton_append, index_here] at this
      simpa using this
    have hcl : closedF (47 :: 42 :: 59 :: 42 :: 47 :: rest) 2 = 5 := by
      unfold closedF
      simp only [List.drop_succ_cons, List.drop_zero]
      rw [hidx]
      decide
    have hln : isLineF (47 :: 42 :: 59 :: 42 :: 47 :: rest) = false := by
      show (decide ((47 : UInt8).toNat = 35) || begF [45, 45] _) = false
      rw [beg_not (by decide)]
      decide
    have hrm : isRemarkF (47 :: 42 :: 59 :: 42 :: 47 :: rest) = true := by
      simp [isRemarkF, begF, Lib.hasPrefix, List.isPrefixOf]
    rw [stepF, if_neg (by decide), if_neg (by rw [hln]; simp), if_pos hrm, hcl, if_neg (by decide)]
  show lexF (47 :: 42 :: 59 :: 42 :: 47 :: rest) = _
  rw [lexF_skip (by simp) hs (by decide)]
  show lexF rest = _
  cases lexF rest <;> simp
theorem says_line : Says [45, 45, 32, 120, 10] [] := fun rest => by
  rw [lexF_line ([45, 45, 32, 120, 10] ++ rest) rest [45, 45, 32, 120] (by simp) (by decide) (by simp) (by
    show (decide ((45 : UInt8).toNat = 35) || begF [45, 45] _) = true
    simp [begF, Lib.hasPrefix, List.isPrefixOf]) (by
    intro b hb
    simp at hb
    subst hb
    decide)]
  cases lexF rest <;> simp

/-- a spelling of a token, a blank behind -/
theorem says_tok {x : List UInt8} {k : Int} {t : List UInt8} (hk : 0 ≤ k) (b : UInt8) (hb : blankF b = true) (hs : ∀ rest, stepF (x ++ b :: rest) = .tok k.toNat t x.length) (hx : x ≠ []) : Says (x ++ [b]) [(k, t)] := fun rest => by
  have e : x ++ [b] ++ rest = x ++ b :: rest := by simp
  rw [e, lexF_tok (by simp) (hs rest) (by intro e; exact hx (List.eq_nil_of_length_eq_zero e)), List.drop_left' rfl, lexF_blank b rest hb]
  have : ((k.toNat : Nat) : Int) = k := by omega
  rw [this]
  cases lexF rest <;> simp
theorem says_written (k : Int) (t : List UInt8) (hr : rightF k t = true) (b : UInt8) (hb : blankF b = true) : Says (writtenF k t ++ [b]) [(k, t)] :=
  says_tok (by have := right_kind hr; omega) b hb (fun rest => (step_written k t hr b hb rest).1) (step_written k t hr b hb []).2
/-- a word in small letters -/
theorem says_small (t : List UInt8) (hr : rightF 1 t = true) (b : UInt8) (hb : blankF b = true) : Says (t.map Lib.lowerB ++ [b]) [(1, t)] := by
  have hF : rightWordF t = true := hr
  obtain ⟨bl, _⟩ := blank_parts b hb
  cases t with
  | nil => simp [rightWordF] at hF
  | cons c r =>
    simp only [rightWordF, Bool.and_eq_true, decide_eq_true_eq] at hF
    obtain ⟨h1, h2, h3⟩ := hF
    refine says_tok (by decide) b hb (fun rest => ?_) (by simp)
    have hlod : lodF c = true := by simp [lodF, h1]
    have hrun := runF_append (p := lodF) ((c :: r).map Lib.lowerB) b rest (by rw [runF_map fold_lower.lod, h2, List.length_map]) bl
    rw [List.map_cons, List.cons_append] at hrun ⊢
    refine step_of_first _ _ (skip_lod _ _ (by rw [fold_lower.lod]; exact hlod)) ?_
    simp only [firstF, fold_lower.letterF, h1, if_true]
    rw [hrun]
    have e1 : (Lib.lowerB c :: (r.map Lib.lowerB ++ b :: rest)).take (Lib.lowerB c :: r.map Lib.lowerB).length = (c :: r).map Lib.lowerB := by
      rw [← List.cons_append, List.take_left' rfl]
      rfl
    rw [e1, greatF_map fold_lower, h3]
    rfl

/-- what is written of a token, at the end -/
theorem step_end (k : Int) (t : List UInt8) (hr : rightF k t = true) (h5 : k ≠ 5) : stepF (writtenF k t) = .tok k.toNat t (writtenF k t).length ∧ writtenF k t ≠ [] := by
  rcases right_kind hr with rfl | rfl | rfl | rfl | rfl | rfl
  · have hw : writtenF 1 t = t := rfl
    rw [hw]
    have hF : rightWordF t = true := hr
    cases t with
    | nil => simp [rightWordF] at hF
    | cons c r =>
      simp only [rightWordF, Bool.and_eq_true, decide_eq_true_eq] at hF
      obtain ⟨h1, h2, h3⟩ := hF
      have hlod : lodF c = true := by simp [lodF, h1]
      refine ⟨step_of_first c _ (skip_lod c _ hlod) ?_, by simp⟩
      simp only [firstF, h1, if_true]
      rw [h2, List.take_length, h3]
      rfl
  · have hw : writtenF 2 t = 34 :: (twiceF 34 t ++ [34]) := rfl
    rw [hw]
    have hs : skipF (34 :: (twiceF 34 t ++ [34])) = 0 := skip_plain _ _ (by decide) (beg_not (by decide)) (by decide) (beg_not (by decide))
    refine ⟨step_of_first _ _ hs ?_, by simp⟩
    simp only [firstF]
    rw [if_neg (by decide), if_neg (by decide), if_pos (by decide), quoted_back 34 t [] (by simp)]
    simp
  · have hw : writtenF 3 t = 39 :: (twiceF 39 t ++ [39]) := rfl
    rw [hw]
    have hs : skipF (39 :: (twiceF 39 t ++ [39])) = 0 := skip_plain _ _ (by decide) (beg_not (by decide)) (by decide) (beg_not (by decide))
    refine ⟨step_of_first _ _ hs ?_, by simp⟩
    simp only [firstF]
    rw [if_neg (by decide), if_neg (by decide), if_neg (by decide), if_pos (by decide), quoted_back 39 t [] (by simp)]
    simp
  · have hw : writtenF 4 t = t := rfl
    rw [hw]
    have hF : (decide (t ≠ []) && decide (runF digitF t = t.length)) = true := hr
    simp only [Bool.and_eq_true, decide_eq_true_eq] at hF
    cases t with
    | nil => exact absurd rfl hF.1
    | cons c r =>
      have h2 := hF.2
      have hd : digitF c = true := by
        cases hp : digitF c with
        | true => rfl
        | false => rw [runF_none hp] at h2; simp at h2
      have hlod : lodF c = true := by simp [lodF, hd]
      refine ⟨step_of_first c _ (skip_lod c _ hlod) ?_, by simp⟩
      simp only [firstF, digit_no_letter c hd, hd, Bool.false_eq_true, if_false, if_true]
      rw [h2, List.take_length]
      rfl
  · exact absurd rfl h5
  · have hw : writtenF 6 t = t := rfl
    rw [hw]
    cases t with
    | nil => exact absurd hr (by decide)
    | cons c r =>
      cases r with
      | cons d r =>
        have hF : false = true := hr
        cases hF
      | nil =>
        have hF : signF c = true := hr
        obtain ⟨g1, g2, g3, g4, g5, g6, g7, g8⟩ := (sign_parts c).1 hF
        have n1 : begF [47, 42] [c] = false := by simp [begF, Lib.hasPrefix, List.isPrefixOf]
        have n2 : begF [45, 45] [c] = false := by simp [begF, Lib.hasPrefix, List.isPrefixOf]
        have n3 : begF [47, 42, 43] [c] = false := by simp [begF, Lib.hasPrefix, List.isPrefixOf]
        have hs : skipF [c] = 0 := skip_plain _ _ (blank_lt c g1) n1 g8 n2
        refine ⟨step_of_first c _ hs ?_, by simp⟩
        simp only [firstF, g3, g4, Bool.false_eq_true, if_false]
        rw [if_neg (by omega), if_neg g7, if_neg (by rw [n3]; simp), if_pos hF]
        rfl

/-- what is written of tokens, with a blank behind each -/
theorem write_flat : ∀ (t : Tok) (r : List Tok), writeF (t :: r) ++ [32] = (t :: r).flatMap fun t => writtenF t.1 t.2 ++ [32]
  | t, [] => by simp [writeF]
  | t, u :: r => by
    have ih := write_flat u r
    have e : writeF (t :: u :: r) = writtenF t.1 t.2 ++ 32 :: writeF (u :: r) := by simp [writeF]
    rw [e, List.flatMap_cons, ← ih]
    simp
theorem says_flat : ∀ ts : List Tok, (∀ t ∈ ts, rightF t.1 t.2 = true) → Says (ts.flatMap fun t => writtenF t.1 t.2 ++ [32]) ts
  | [], _ => Says.nil
  | t :: ts, h => by
    have ih := says_flat ts fun x hx => h x (List.mem_cons_of_mem _ hx)
    have := (says_written t.1 t.2 (h t (by simp)) 32 (by decide)).add ih
    rw [List.flatMap_cons]
    exact this
theorem lex_write : ∀ ts : List Tok, (∀ t ∈ ts, rightF t.1 t.2 = true ∧ t.1 ≠ 5) → lexF (writeF ts) = some ts
  | [], _ => by rw [writeF, lexF_nil]
  | [t], h => by
    obtain ⟨h1, h5⟩ := h t (by simp)
    obtain ⟨hs, hne⟩ := step_end t.1 t.2 h1 h5
    have e : writeF [t] = writtenF t.1 t.2 := by simp [writeF]
    have hk : ((t.1.toNat : Nat) : Int) = t.1 := by have := right_kind h1; omega
    rw [e, lexF_tok hne hs (by intro e; exact hne (List.eq_nil_of_length_eq_zero e)), List.drop_length, lexF_nil, hk]
    rfl
  | t :: u :: r, h => by
    have ih := lex_write (u :: r) fun x hx => h x (List.mem_cons_of_mem _ hx)
    have e : writeF (t :: u :: r) = (writtenF t.1 t.2 ++ [32]) ++ writeF (u :: r) := by simp [writeF]
    rw [e]
    exact (says_written t.1 t.2 (h t (by simp)).1 32 (by decide)).then_ ih

theorem lex_stops : lexF [59, 32, 59] = some [(6, [59]), (6, [59])] := by
  rw [lexF_tok (k := 6) (t := [59]) (n := 1) (by simp) (by kernel_rfl) (by decide)]
  show (lexF [32, 59]).map _ = _
  rw [lexF_blank 32 _ (by decide), lexF_tok (k := 6) (t := [59]) (n := 1) (by simp) (by kernel_rfl) (by decide)]
  show ((lexF []).map _).map _ = _
  rw [lexF_nil]
  rfl
theorem lex_stopped (ts : List Tok) (h : ∀ t ∈ ts, rightF t.1 t.2 = true) : lexF (writeF ts ++ [32, 59, 32, 59]) = some (ts ++ [(6, [59]), (6, [59])]) := by
  cases ts with
  | nil =>
    show lexF [32, 59, 32, 59] = _
    rw [lexF_blank 32 _ (by decide), lex_stops]
    rfl
  | cons t r =>
    have e : writeF (t :: r) ++ [32, 59, 32, 59] = (writeF (t :: r) ++ [32]) ++ [59, 32, 59] := by simp
    rw [e, write_flat]
    exact (says_flat _ h).then_ lex_stops

theorem classA_lex {l : List UInt8} {ts : List Tok} (h : lexF l = some ts) (hl : l.length ≤ 200) : classA l = classF (bodyF ts) := by
  have e : lexA l = (ts, 0) := by
    unfold lexA
    rw [if_neg (by omega), h]
  unfold classA
  rw [e]
  rfl
theorem body_stopped (ts : List Tok) : bodyF (ts ++ [(6, [59]), (6, [59])]) = bodyF ts := by
  unfold bodyF
  have e : (ts ++ [((6 : Int), ([59] : List UInt8)), (6, [59])]).filter (fun t => !isHintF t) = ((ts.filter fun t => !isHintF t) ++ [(6, [59])]) ++ [(6, [59])] := by
    rw [List.filter_append]
    simp [isHintF]
  rw [e, endF_stop (by decide), endF_stop (by decide)]
theorem ifF_ne {c : Int} (h : c ≠ 0) (b : Bool) : ifF c b ≠ 0 := by cases b <;> simp [ifF, h]
theorem selF_ne (l : List Tok) (b : Bool) : selF l b ≠ 0 := by unfold selF; split <;> (try split) <;> decide
theorem exF_ne (l : List Tok) (c : Int) : exF l c ≠ 0 := by unfold exF; split <;> (try split) <;> (try split) <;> decide
theorem famB_ne (v : Int) (r : List Tok) {x : Int} (hx : x ≠ 0) : famB v r x ≠ 0 := by
  unfold famB
  split
  · decide
  split
  · exact hx
  split
  · decide
  split
  · exact selF_ne _ _
  split
  · exact selF_ne _ _
  split
  · exact ifF_ne (by decide) _
  split
  · exact ifF_ne (by decide) _
  split
  · exact ifF_ne (by decide) _
  split
  · exact ifF_ne (by decide) _
  split
  · exact ifF_ne (by decide) _
  · decide
theorem classF_ne (l : List Tok) : classF l ≠ 0 := by
  cases l with
  | nil => rw [classF_nil]; decide
  | cons t r =>
    by_cases h : t.1 ≠ 1 ∨ (t :: r).any stopF = true
    · rw [classF_no h]; decide
    · have h1 : t.1 = 1 := Classical.byContradiction fun e => h (.inl e)
      have h2 : (t :: r).any stopF = false := by
        cases hq : (t :: r).any stopF with
        | false => rfl
        | true => exact absurd (.inr hq) h
      rw [classF_word h1 h2]
      exact famB_ne _ _ (exF_ne _ _)

/-- what the small text has of a token, a blank behind -/
def smallF (t : Tok) : List UInt8 := if t.1 = 1 then (writtenF t.1 t.2).map Lib.lowerB else writtenF t.1 t.2
theorem smallF_len (t : Tok) : (smallF t).length = (writtenF t.1 t.2).length := by unfold smallF; split <;> simp
theorem says_smallF (t : Tok) (h : rightF t.1 t.2 = true) : Says (smallF t ++ [32]) [t] := by
  obtain ⟨k, x⟩ := t
  unfold smallF
  split
  · rename_i h1
    obtain rfl : k = 1 := h1
    exact says_small x h 32 (by decide)
  · exact says_written k x h 32 (by decide)
theorem word_ascii {t : List UInt8} (h : rightF 1 t = true) : ∀ c ∈ t, c.toNat < 128 := by
  have hF : rightWordF t = true := h
  cases t with
  | nil => simp
  | cons c r =>
    simp only [rightWordF, Bool.and_eq_true, decide_eq_true_eq] at hF
    exact run_all_ascii hF.2.1
end

/- strings.Map with the law's own mapping, HasSuffix, the builder's Len and String: the library's contracts in these texts' own words; the tables of unicode/utf8 as the row lays them. -/
section
open Go.RowKit
set_option maxRecDepth 100000

/-- unicode/utf8's two tables are as Go's text says -/
def U8w (w : World) : Prop := Lib.Utf8Tabs 2 3 w

theorem u8Extra : U8Extra Tryz.prog Tryz.lays260_ren := ⟨by kernel_rfl, by kernel_rfl, by kernel_rfl, by kernel_rfl, by kernel_rfl, by kernel_rfl, by kernel_rfl⟩
theorem u8w_of_laid {w : World} (h : laidMet Tryz.prog [("unicode/utf8.acceptRanges", Rows.laid_unicode_utf8_acceptRanges), ("unicode/utf8.first", Rows.laid_unicode_utf8_first)] w) : U8w w := by
  have h3 := Lib.laidMet.reads h (n := "unicode/utf8.first") (d := Lib.firstData) (by rw [← Pinned.utf8First_eq]; exact List.mem_cons_of_mem _ (List.mem_cons_self ..))
  have h4 := Lib.laidMet.reads h (n := "unicode/utf8.acceptRanges") (d := Lib.acceptData) (by rw [show Lib.acceptData = Rows.laid_unicode_utf8_acceptRanges from by kernel_rfl]; exact List.mem_cons_self ..)
  exact utf8Tabs_of_reads Tryz.lays260 u8Extra h3 h4

theorem len_s (B b : Nat) (l : List UInt8) (w : World) (h : Bd B b l w) : Calls Tryz.prog 20 #[.pointer (some ⟨b, 0, none⟩)] w fun e w' => e = .returned (.int .i64 l.length) ∧ w' = w := by
  have k := Any.Builder_Len_f Tryz.lays170 B b (Lib.byteCells l) w h
  change Calls Tryz.prog 20 _ _ _ at k
  rw [Lib.byteCells_length] at k
  exact k

theorem string2_s (B b : Nat) (l : List UInt8) (w : World) (h : Bd B b l w) (hB : B ≤ w.heap.size) :
    Calls Tryz.prog 21 #[.pointer (some ⟨b, 0, none⟩)] w fun e w' => ∃ r : ByteArray, e = .returned (.string r) ∧ r.data.toList = l ∧ Bd B b l w' ∧ Below B w w' := by
  have k := Any.Builder_String_any_k { Tryz.lays230 with } Tryz.Builder_Extra_230 B b l w h hB
  change Calls Tryz.prog 21 _ _ _ at k
  exact k.mono fun e w' ⟨he, h1, h2, _⟩ => ⟨_, he, by simp, h1, h2⟩
end

/- A builder whose own row is told, so that two of them stand beside one another: WriteString, String: contracts. -/
section
open Go.RowKit
set_option maxRecDepth 100000

/-- a builder at block b, its bytes in block 'row', both from B on -/
def Bw (B b : Nat) (row : Option Nat) (l : List UInt8) (w : World) : Prop :=
  B ≤ b ∧ ∃ p v, (p = .pointer none ∨ p = .pointer (some ⟨b, 0, none⟩)) ∧ w.heap[b]? = some (.cells #[p, v] 42 (0, 0)) ∧ w.ownsRowF B 5 1 v l.length (bvs l) ∧ v.ownBlock = row
theorem Bw.lt {B b : Nat} {row : Option Nat} {l : List UInt8} {w : World} (h : Bw B b row l w) : b < w.heap.size := by
  obtain ⟨_, p, v, _, hb, _⟩ := h
  exact (Array.getElem?_eq_some_iff.1 hb).1
theorem Bw.row {B b : Nat} {row : Option Nat} {l : List UInt8} {w : World} (h : Bw B b row l w) : ∀ g, row = some g → B ≤ g ∧ g < w.heap.size ∧ ∃ cur fz, w.heap[g]? = some (.cells cur 5 fz) := by
  obtain ⟨_, p, v, _, _, hown, hv⟩ := h
  intro g hg
  rw [hg] at hv
  have h1 := hown.lt g hv
  rcases hown.2 with ⟨rfl, _⟩ | ⟨g', cap, cur, fz, rfl, _, hh, _⟩
  · cases hv
  · have : g' = g := by simpa [Value.ownBlock] using hv
    subst this
    exact ⟨h1.1, h1.2, cur, fz, hh⟩
theorem Bw.apart {B b b' : Nat} {row row' : Option Nat} {l l' : List UInt8} {w : World} (h : Bw B b row l w) (h' : Bw B b' row' l' w) : row' ≠ some b := fun e => by
  obtain ⟨_, p, v, _, hb, _⟩ := h
  obtain ⟨_, _, cur, fz, hg⟩ := h'.row b e
  rw [hb] at hg
  simp only [Option.some.injEq, Obj.cells.injEq] at hg
  have := hg.2.1
  revert this
  decide
theorem Bw.keep {B b : Nat} {row : Option Nat} {l : List UInt8} {w w' : World} (h : Bw B b row l w) (hk : ∀ k, k < w.heap.size → (k = b ∨ row = some k) → w'.heap[k]? = w.heap[k]?) : Bw B b row l w' := by
  have hlt := h.lt
  have hrow := h.row
  obtain ⟨hB, p, v, hp, hb, hown, hv⟩ := h
  refine ⟨hB, p, v, hp, (hk b hlt (.inl rfl)).trans hb, ⟨hown.1, ?_⟩, hv⟩
  rcases hown.2 with h0 | ⟨g, cap, cur, fz, rfl, hg, hh, r⟩
  · exact .inl h0
  · have hr : row = some g := hv.symm
    exact .inr ⟨g, cap, cur, fz, rfl, hg, (hk g (Array.getElem?_eq_some_iff.1 hh).1 (.inr hr)).trans hh, r⟩
theorem Bw.next {B b : Nat} {row : Option Nat} {l : List UInt8} {w w' : World} (h : Bw B b row l w) (hb : Below w.heap.size w w') : Bw B b row l w' := h.keep fun k hk _ => hb.block k hk
theorem Bw.bd {B b : Nat} {row : Option Nat} {l : List UInt8} {w : World} (h : Bw B b row l w) : Bd B b l w := by
  obtain ⟨hB, p, v, hp, hb, hown, hv⟩ := h
  have hne : v.ownBlock ≠ some b := Lib.ownBlock_neF hown hb (by decide)
  have hown' : w.ownsRowF B 5 1 v (Lib.byteCells l).length (Lib.byteCells l) := by rw [Lib.byteCells_length]; exact hown
  rcases hp with rfl | rfl
  · exact .inl ⟨hB, v, hb, hown', hne⟩
  · exact .inr ⟨hB, v, hb, hown', hne⟩
theorem Bw.new (w : World) (B : Nat) (hB : B ≤ w.heap.size) : Bw B w.heap.size none [] (w.alloc (.cells #[.pointer none, .slice none 0 0] 42)) :=
  ⟨hB, .pointer none, .slice none 0 0, .inl rfl, heap_alloc_new w _, World.ownsRowF_nil _ _ _ _, rfl⟩

/-- what a write leaves as it was: all but the builder and its row -/
def Spared (b : Nat) (row : Option Nat) (w w' : World) : Prop := ∀ k, k < w.heap.size → k ≠ b → row ≠ some k → w'.heap[k]? = w.heap[k]?
theorem Bw.other {B b b' : Nat} {row row' : Option Nat} {l l' : List UInt8} {w w' : World} (h : Bw B b row l w) (h' : Bw B b' row' l' w) (hs : Spared b row w w') (hne : b' ≠ b) (hr : ∀ g, row = some g → row' ≠ some g) : Bw B b' row' l' w' := by
  refine h'.keep fun k hk hor => hs k hk ?_ ?_
  · rcases hor with rfl | hor
    · exact hne
    · rintro rfl
      exact h.apart h' hor
  · rcases hor with rfl | hor
    · exact h'.apart h
    · intro e
      exact hr k e hor

theorem u8info : (Tryz.prog.info? 5).map (fun i => (i.zero, i.size, i.bytes)) = some (some (.int .u8 0), 1, 1) := by kernel_rfl

/-- where the row of an append lies: where it lay, or in a new block -/
theorem run_append_x {P : Program} {w : World} (base : Nat) (t u ty e : TypeId) (i : TypeInfo) (ht : P.underlying t = some (.slice e)) (hu : P.underlying u = some .string) (hi : P.info? e = some i) (hz : i.zero = some (.int .u8 0))
    (hsize : i.size = 1) (hby : i.bytes = 1) (v : Value) (n : Nat) (xs : List Value) (hown : w.ownsRowF base e 1 v n xs) (s : ByteArray) (h63 : n + s.size ≤ maxLen) (hbytes : n + s.size ≤ 140737488355328) (hbase : base ≤ w.heap.size) :
    ∃ v' w', (Builtin.append_ #[t, u] ty #[v, .string s]).run P w = .ok v' w' ∧ w'.ownsRowF base e 1 v' (n + s.size) (xs ++ Lib.strCells s) ∧ w.grownBy w' v.ownBlock ∧ (v'.ownBlock = v.ownBlock ∨ v'.ownBlock = none ∨ ∃ g, v'.ownBlock = some g ∧ w.heap.size ≤ g) := by
  obtain ⟨v', w', hr, h2, h3, _⟩ := Lib.run_append_own_stringF (P := P) (w := w) base t u ty e i ht hu hi hz hsize hby v n xs hown s h63 hbytes hbase
  refine ⟨v', w', hr, h2, h3, ?_⟩
  rcases hown.2 with ⟨rfl, rfl⟩ | ⟨g, cap, cur, fz, rfl, hbg, hg, hfz, hnc, hcm, hcs, htake⟩
  · obtain ⟨v2, w2, hr2, h22, _, _⟩ := Lib.run_append_own_stringF (P := P) (w := w) w.heap.size t u ty e i ht hu hi hz hsize hby (.slice none 0 0) 0 xs ⟨hown.1, .inl ⟨rfl, rfl⟩⟩ s h63 hbytes (Nat.le_refl _)
    rw [hr] at hr2
    injection hr2 with e1 e2
    subst e1
    cases hq : v'.ownBlock with
    | none => exact .inr (.inl rfl)
    | some g => exact .inr (.inr ⟨g, rfl, (h22.lt g hq).1⟩)
  · have hsmall : n + s.size ≤ 9223372036854775807 := by simp only [maxLen] at h63; omega
    have hxl : xs.length = n := by simpa using hown.1
    by_cases hroom : n + s.size ≤ cap
    · have hcs' : cur.size = cap := by simpa using hcs
      have hr2 := Lib.run_append_room_stringF (P := P) w t u ty e i ht hu hi hsize g n cap cur fz hg (by simpa using hfz) s hroom (by omega)
      rw [hr] at hr2
      injection hr2 with e1 e2
      subst e1
      exact .inl rfl
    · have holds : ∀ j u, xs[j]? = some u → w.cell? ((⟨g, 0, none⟩ : Addr).add j) = some u := hown.cells (g := g) rfl
      have hr2 := Lib.run_append_grow_string (P := P) w t u ty e i (.int .u8 0) ht hu hi hz ⟨g, 0, none⟩ n cap xs (by rw [hsize]; simpa using hxl) holds s (by omega) (by omega) (by rw [hby]; exact growslice_fits (by omega) (by omega))
      rw [hr] at hr2
      injection hr2 with e1 e2
      subst e1
      exact .inr (.inr ⟨w.heap.size, rfl, Nat.le_refl _⟩)

theorem wpList_append_x {P : Program} {w : World} {ops : Array Oper} {rest : List Oper} {o : Oper} {a : Act} {Q : Exit → Act → World → Prop} (hgd : o.guard = none) (sl x : Operand) (t u : TypeId)
    (ho : o.op = .call { callee := .builtin .append, args := #[sl, x], argTypes := #[t, u] })
    (base : Nat) (e : TypeId) (i : TypeInfo) (ht : P.underlying t = some (.slice e)) (hu : P.underlying u = some .string) (hi : P.info? e = some i) (hz : i.zero = some (.int .u8 0))
    (hsize : i.size = 1) (hby : i.bytes = 1)
    (v : Value) (n : Nat) (xs : List Value) (hs : a.eval sl = v) (hown : w.ownsRowF base e 1 v n xs) (s : ByteArray) (hx : a.eval x = .string s)
    (h63 : n + s.size ≤ maxLen) (hbytes : n + s.size ≤ 140737488355328) (hbase : base ≤ w.heap.size)
    (h : ∀ v' w', w'.ownsRowF base e 1 v' (n + s.size) (xs ++ Lib.strCells s) → w.grownBy w' v.ownBlock → (v'.ownBlock = v.ownBlock ∨ v'.ownBlock = none ∨ ∃ g, v'.ownBlock = some g ∧ w.heap.size ≤ g) → wpList P ops Q rest (a.put o.dst v') w') : wpList P ops Q (o :: rest) a w := by
  refine wpList_plain hgd fun K hK => ?_
  obtain ⟨v', w', hr, h2, h3, h4⟩ := run_append_x (P := P) base t u o.type e i ht hu hi hz hsize hby v n xs hown s h63 hbytes hbase
  unfold Oper.wp execOp
  simp only [ho, resolve, invoke, builtin, Sem.run_bind, Sem.run_pure, Result.andThen_ok, List.map_toArray, List.map_cons, List.map_nil, hs, hx, hr]
  exact hK _ _ (h v' w' h2 h3 h4)

set_option maxHeartbeats 2000000 in
theorem writeString_x (B b : Nat) (row : Option Nat) (l : List UInt8) (s : ByteArray) (w : World) (h : Bw B b row l w) (hl : l.length ≤ 100000000) (hs : s.size ≤ 100000000) (hBw : B ≤ w.heap.size) :
    Calls Tryz.prog 18 #[.pointer (some ⟨b, 0, none⟩), .string s] w fun e w' => e = .returned (.tuple #[.int .i64 s.size, .nilIface]) ∧
      ∃ row', Bw B b row' (l ++ s.data.toList) w' ∧ (row' = row ∨ row' = none ∨ ∃ g, row' = some g ∧ w.heap.size ≤ g) ∧ Below B w w' ∧ Spared b row w w' := by
  obtain ⟨i0, hi, hz0, hz1, hz2⟩ := info_parts u8info
  have hcc : Calls Tryz.prog 35 #[.pointer (some ⟨b, 0, none⟩)] w fun e w' => e = .returned (.tuple #[]) ∧ ∃ v, w'.heap[b]? = some (.cells #[.pointer (some ⟨b, 0, none⟩), v] 42 (0, 0)) ∧ w'.ownsRowF B 5 1 v l.length (bvs l) ∧ v.ownBlock = row ∧ Below B w w' ∧ w'.heap.size = w.heap.size ∧ Spared b none w w' := by
    have hrow := h.row
    obtain ⟨hB, p, v, hp, hb, hown, hv⟩ := h
    have hne : v.ownBlock ≠ some b := Lib.ownBlock_neF hown hb (by decide)
    rcases hp with rfl | rfl
    · have k := Any.Builder_copyCheck_fresh { Tryz.lays230 with } Tryz.Builder_Extra_230.toX72 b w (by rw [Lib.cell_of_heap hb]; rfl) (by simp [World.shape?, hb]; rfl) (Lib.frozen_of_heap hb 0)
      change Calls Tryz.prog 35 _ _ _ at k
      refine k.mono ?_
      rintro e w' ⟨rfl, rfl⟩
      refine ⟨rfl, v, by simp [World.setCell, Array.getElem?_modify, hb], ?_, hv, (Below.refl B w).setCell (p := ⟨b, 0, none⟩) hB _, by simp [World.setCell], fun k _ hk _ => Below.heap_setCell _ _ _ _ hk⟩
      exact hown.kept (row := some b) ⟨rfl, rfl, rfl, by simp [World.setCell], fun k _ hk => Below.heap_setCell _ _ _ _ (fun e => hk (by rw [e]))⟩ (.inr hne)
    · have k := Any.Builder_copyCheck_used { Tryz.lays230 with } Tryz.Builder_Extra_230.toX72 b w (by rw [Lib.cell_of_heap hb]; rfl)
      change Calls Tryz.prog 35 _ _ _ at k
      refine k.mono ?_
      rintro e w' ⟨rfl, rfl⟩
      exact ⟨rfl, v, hb, hown, hv, Below.refl B _, rfl, fun _ _ _ _ => rfl⟩
  have hB := h.1
  have hrow := h.row
  have HC := Lib.hid hcc
  clear hcc h
  go_enter Tryz.func18, Tryz.ntmps18
  go_wp2_with fail
  refine HC.out.mono ?_
  rintro e w1 ⟨rfl, v, hbk, hown, hv, hb1, hsz1, hsp1⟩
  have c0 : w1.cell? ⟨b, 0, none⟩ = some (.pointer (some ⟨b, 0, none⟩)) := by rw [Lib.cell_of_heap hbk]; rfl
  have c1 : w1.cell? ⟨b, 1, none⟩ = some v := by rw [Lib.cell_of_heap hbk]; rfl
  have hne : v.ownBlock ≠ some b := Lib.ownBlock_neF hown hbk (by decide)
  have HB := Lib.hid hbk
  have HV := Lib.hid hv
  have HS1 := Lib.hid hsz1
  have HSP := Lib.hid hsp1
  clear hbk hv hsz1 hsp1 HC
  go_wp2_with (at_builtin; refine wpList_append_x rfl _ _ 40 9 rfl B 5 i0 Tryz.underlying40 Tryz.underlying9 hi hz0 hz1 hz2 _ _ _ rfl hown s rfl (by unfold maxLen; omega) (by omega) (by have := hb1.size; omega) ?_)
  intro v2 w2 hown' hgrow hnew
  have hb2 : w2.heap[b]? = some (.cells #[.pointer (some ⟨b, 0, none⟩), v] 42 (0, 0)) := by
    rw [hgrow.block b (Array.getElem?_eq_some_iff.1 HB.out).1 (fun e => hne e.symm)]
    exact HB.out
  have d0 : w2.cell? ⟨b, 0, none⟩ = some (.pointer (some ⟨b, 0, none⟩)) := by rw [Lib.cell_of_heap hb2]; rfl
  have d1 : w2.cell? ⟨b, 1, none⟩ = some v := by rw [Lib.cell_of_heap hb2]; rfl
  have f1 : w2.frozen? ⟨b, 1, none⟩ = false := Lib.frozen_of_heap hb2 1
  obtain ⟨ao, n', cap, rfl⟩ : ∃ ao n' cap, v2 = .slice ao n' cap := by
    rcases hown'.2 with ⟨hv, _⟩ | ⟨g, cap, cur, fz, hv, _⟩
    · exact ⟨_, _, _, hv⟩
    · exact ⟨_, _, _, hv⟩
  have HB2 := Lib.hid hb2
  clear hb2
  have HO := Lib.hid hown'
  have HG := Lib.hid hgrow
  have HN := Lib.hid hnew
  clear hown' hgrow hnew hown
  go_wp2_with fail
  go_ret2
  have hb3 : (w2.setCell ⟨b, 1, none⟩ (.slice ao n' cap)).heap[b]? = some (.cells #[.pointer (some ⟨b, 0, none⟩), .slice ao n' cap] 42 (0, 0)) := by simp [World.setCell, Array.getElem?_modify, HB2.out]
  have hne2 : (Value.slice ao n' cap).ownBlock ≠ some b := Lib.ownBlock_neF HO.out HB2.out (by decide)
  refine ⟨rfl, (Value.slice ao n' cap).ownBlock, ⟨hB, _, _, .inr rfl, hb3, ?_, rfl⟩, ?_, ?_, ?_⟩
  · have h1 := HO.out.kept (w' := w2.setCell ⟨b, 1, none⟩ (.slice ao n' cap)) (row := some b) ⟨rfl, rfl, rfl, by simp [World.setCell], fun k _ hk => Below.heap_setCell _ _ _ _ (fun e => hk (by rw [e]))⟩ (.inr hne2)
    have e1 : bvs l ++ Lib.strCells s = bvs (l ++ s.data.toList) := by rw [bvs_append]; rfl
    rw [e1] at h1
    have e2 : l.length + s.size = (l ++ s.data.toList).length := by simp
    rw [e2] at h1
    exact h1
  · rcases HN.out with h1 | h1 | ⟨g, h1, h2⟩
    · exact .inl (h1.trans HV.out)
    · exact .inr (.inl h1)
    · exact .inr (.inr ⟨g, h1, by rw [← HS1.out]; exact h2⟩)
  · have h1 : Below B w w2 := hb1.grown HG.out (by have := hb1.size; omega) (fun k hk => by rw [HV.out] at hk; exact (hrow k hk).1)
    exact h1.setCell (p := ⟨b, 1, none⟩) hB _
  · intro k hk hkb hkr
    rw [Below.heap_setCell _ _ _ _ hkb, HG.out.block k (by rw [HS1.out]; exact hk) (fun e => hkr (by rw [← HV.out, ← e])), HSP.out k hk hkb (by simp)]

set_option maxHeartbeats 4000000 in
theorem string_x (B b : Nat) (row : Option Nat) (l : List UInt8) (w : World) (h : Bw B b row l w) (h0 : l ≠ []) :
    Calls Tryz.prog 21 #[.pointer (some ⟨b, 0, none⟩)] w fun e w' => ∃ r : ByteArray, e = .returned (.string r) ∧ r.data.toList = l ∧ Below B w w' ∧ Spared b row w w' := by
  have hrow := h.row
  obtain ⟨hB, p, v, hp, hbk, hown, hv⟩ := h
  have hl0 : l.length ≠ 0 := by simpa using h0
  obtain ⟨g, cap, cur, fz, rfl, hbg, hg, hfz, hnc, hcm, hcs, htake⟩ : ∃ g cap cur fz, v = .slice (some ⟨g, 0, none⟩) l.length cap ∧ B ≤ g ∧ w.heap[g]? = some (.cells cur 5 fz) ∧ fz.2 ≤ l.length * 1 ∧ l.length ≤ cap ∧ cap ≤ maxLen ∧ cur.size = cap * 1 ∧ cur.toList.take (l.length * 1) = bvs l := by
    rcases hown.2 with ⟨_, hz⟩ | ⟨g, cap, cur, fz, hv, r⟩
    · exact absurd hz hl0
    · exact ⟨g, cap, cur, fz, hv, r⟩
  have hrg : row = some g := hv.symm
  have c1 : w.drew.cell? ⟨b, 1, none⟩ = some (.slice (some ⟨g, 0, none⟩) l.length cap) := by
    have : w.drew.heap[b]? = some (.cells #[p, .slice (some ⟨g, 0, none⟩) l.length cap] 42 (0, 0)) := hbk
    rw [Lib.cell_of_heap this]; rfl
  have hSD : (Builtin.unsafeSliceData_ #[40] 81 #[.slice (some ⟨g, 0, none⟩) l.length cap]).run Tryz.prog w.drew = .ok (.pointer (some ⟨g, 0, none⟩)) w.drew :=
    Lib.run_unsafeSliceData_row _ _ _ _ _ _ (by omega)
  have hUS : (Builtin.unsafeString_ #[81, 3] 9 #[.pointer (some ⟨g, 0, none⟩), .int .i64 l.length]).run Tryz.prog w.drew = .ok (.string ⟨l.toArray⟩) (w.drew.freeze ⟨g, 0, none⟩ l.length) := by
    refine Lib.run_unsafeString_row w.drew 81 3 9 5 Tryz.underlying81 (by kernel_rfl) g cur.size (by have hg' : w.drew.heap[g]? = some (.cells cur 5 fz) := hg; simp [World.shape?, hg']) l h0 (by omega) (by unfold maxLen at hcm; omega) ?_
    intro j x hx
    have := hown.cells (g := g) rfl j (.int .u8 x.toNat) (by simp [bvs, bv, hx])
    exact this
  have hfin : Below B w (w.drew.freeze ⟨g, 0, none⟩ l.length) ∧ Spared b row w (w.drew.freeze ⟨g, 0, none⟩ l.length) := by
    refine ⟨Lib.below_freeze (Below.drew (Below.refl B w)) (p := ⟨g, 0, none⟩) hbg _, fun k hk hkb hkr => ?_⟩
    have hkg : ¬ g = k := fun e => hkr (by rw [hrg, e])
    unfold World.freeze
    rw [if_neg hl0]
    show (w.heap.modify g _)[k]? = w.heap[k]?
    rw [Array.getElem?_modify, if_neg hkg]
  have HF := Lib.hid hfin
  have HR : Hid ((⟨l.toArray⟩ : ByteArray).data.toList = l) := Lib.hid (by simp)
  clear hfin hrow hown hv hbk hg htake hcs hfz
  generalize (⟨l.toArray⟩ : ByteArray) = q at *
  have mixed : Tryz.prog.follows .mixedOrders = true := by kernel_rfl
  go_enter Tryz.func21, Tryz.ntmps21
  go_wp2
  go_region_o
  all_goals (go_wp2; go_ret; exact ⟨q, rfl, HR.out, HF.out⟩)

set_option maxHeartbeats 4000000 in
theorem string_0 (B b : Nat) (l : List UInt8) (w : World) (h : Bw B b none l w) (h0 : l = []) :
    Calls Tryz.prog 21 #[.pointer (some ⟨b, 0, none⟩)] w fun e w' => ∃ r : ByteArray, e = .returned (.string r) ∧ r.data.toList = l ∧ Below B w w' ∧ Spared b none w w' := by
  subst h0
  obtain ⟨hB, p, v, hp, hbk, hown, hv⟩ := h
  obtain rfl : v = .slice none 0 0 := by
    rcases hown.2 with ⟨hz, _⟩ | ⟨g, cap, cur, fz, hz, _⟩
    · exact hz
    · rw [hz] at hv; cases hv
  have c1 : w.drew.cell? ⟨b, 1, none⟩ = some (.slice none 0 0) := by
    have : w.drew.heap[b]? = some (.cells #[p, .slice none 0 0] 42 (0, 0)) := hbk
    rw [Lib.cell_of_heap this]; rfl
  have hSD : (Builtin.unsafeSliceData_ #[40] 81 #[.slice none 0 0]).run Tryz.prog w.drew = .ok (.pointer none) w.drew := rfl
  have hUS : (Builtin.unsafeString_ #[81, 3] 9 #[.pointer none, .int .i64 0]).run Tryz.prog w.drew = .ok (.string .empty) w.drew := Lib.run_unsafeString_none _ _ _ _ _
  have HF : Hid (Below B w w.drew ∧ Spared b none w w.drew) := Lib.hid ⟨Below.drew (Below.refl B w), fun _ _ _ _ => rfl⟩
  clear hown hv hbk hp
  generalize hq : ByteArray.empty = q at *
  have HR : Hid (q.data.toList = []) := Lib.hid (by rw [← hq]; rfl)
  clear hq
  have mixed : Tryz.prog.follows .mixedOrders = true := by kernel_rfl
  go_enter Tryz.func21, Tryz.ntmps21
  go_wp2
  go_region_o
  all_goals (go_wp2; go_ret; exact ⟨q, rfl, HR.out, HF.out⟩)
theorem string_y (B b : Nat) (row : Option Nat) (l : List UInt8) (w : World) (h : Bw B b row l w) (h0 : l = [] → row = none) :
    Calls Tryz.prog 21 #[.pointer (some ⟨b, 0, none⟩)] w fun e w' => ∃ r : ByteArray, e = .returned (.string r) ∧ r.data.toList = l ∧ Below B w w' ∧ Spared b row w w' := by
  by_cases hl : l = []
  · obtain rfl := h0 hl
    exact string_0 B b l w h hl
  · exact string_x B b row l w h hl
end

/- The law's own ascii, strings.ToUpper and ToLower at ASCII text: contracts. -/
section
open Go.RowKit
set_option maxRecDepth 100000

def lowAscii (c : UInt8) : Bool := decide (c.toNat < 128)
theorem filter_next (l : List UInt8) (k : Nat) (h : k < l.length) : (l.take (k + 1)).filter lowAscii = (l.take k).filter lowAscii ++ (if lowAscii l[k] then [l[k]] else []) := by
  rw [List.take_succ_eq_append_getElem h, List.filter_append]
  congr 1
  simp only [List.filter_cons, List.filter_nil]

theorem lower_s (s : ByteArray) (w : World) (hs : s.size ≤ 1000000) (ha : ∀ c ∈ s.data.toList, lowAscii c = true) :
    Calls Tryz.prog 19 #[.string s] w fun e w' => ∃ r : ByteArray, e = .returned (.string r) ∧ r.data.toList = s.data.toList.map Lib.lowerB ∧ Below w.heap.size w w' := by
  have k := Any.strings_ToLower_ascii Tryz.lays159 Tryz.Builder_Extra_159 s w (by omega) (fun j b hb => by have := ha b (List.mem_of_getElem? hb); unfold lowAscii at this; exact of_decide_eq_true this)
  change Calls Tryz.prog 19 _ _ _ at k
  exact k.mono fun e w' ⟨he, h2⟩ => ⟨_, he, by simp [Lib.toLowerA], h2⟩
end

/- ClassSame: remarks, blanks, signs ; at the end, and letters' greatness outside of quotes change nothing: the walk. -/
section
open Go.RowKit
set_option maxRecDepth 100000

/- a Classer and a builder beside one another -/
theorem Bw.block {B b : Nat} {row : Option Nat} {l : List UInt8} {w : World} (h : Bw B b row l w) : ∃ p v, w.heap[b]? = some (.cells #[p, v] 42 (0, 0)) := by
  obtain ⟨_, p, v, _, hb, _⟩ := h
  exact ⟨p, v, hb⟩
theorem CL.block {w : World} {b : Nat} (h : CL w b) : ∃ c0 c1 c2 c3, Cls w b c0 c1 c2 c3 := by
  obtain ⟨x, h | ⟨bm, h, _⟩⟩ := h
  · exact ⟨_, _, _, _, h⟩
  · exact ⟨_, _, _, _, h⟩
theorem CL.off {B b bc : Nat} {row : Option Nat} {l : List UInt8} {w : World} (hc : CL w bc) (h : Bw B b row l w) : bc ≠ b ∧ row ≠ some bc := by
  obtain ⟨c0, c1, c2, c3, hcls⟩ := hc.block
  obtain ⟨p, v, hb⟩ := h.block
  unfold Cls at hcls
  refine ⟨?_, fun e => ?_⟩
  · rintro rfl
    rw [hb] at hcls
    simp only [Option.some.injEq, Obj.cells.injEq] at hcls
    have := hcls.2.1
    revert this
    decide
  · obtain ⟨_, _, cur, fz, hg⟩ := h.row bc e
    rw [hg] at hcls
    simp only [Option.some.injEq, Obj.cells.injEq] at hcls
    have := hcls.2.1
    revert this
    decide
theorem CL.spared {B b bc : Nat} {row : Option Nat} {l : List UInt8} {w w' : World} (hc : CL w bc) (h : Bw B b row l w) (hs : Spared b row w w') : CL w' bc := by
  obtain ⟨n1, n2⟩ := hc.off h
  obtain ⟨p, v, hb⟩ := h.block
  have hrow := h.row
  obtain ⟨x, hc | ⟨bm, hc, hm, hne⟩⟩ := hc
  · exact ⟨x, .inl (hc.keep (hs bc hc.lt n1 n2))⟩
  · refine ⟨x, .inr ⟨bm, hc.keep (hs bc hc.lt n1 n2), hm.keep (hs bm hm.lt ?_ ?_), hne⟩⟩
    · rintro rfl
      obtain ⟨es, clock, hh, _⟩ := hm
      rw [hb] at hh
      simp at hh
    · intro e
      obtain ⟨_, _, cur, fz, hg⟩ := hrow bm e
      obtain ⟨es, clock, hh, _⟩ := hm
      rw [hg] at hh
      simp at hh
theorem Bw.bel {B b bc : Nat} {row : Option Nat} {l : List UInt8} {w w' : World} (h : Bw B b row l w) (hc : CL w bc) (hb : Bel bc w w') : Bw B b row l w' := by
  obtain ⟨n1, n2⟩ := hc.off h
  refine h.keep fun k hk hor => hb.block k hk ?_
  rcases hor with rfl | hor
  · exact fun e => n1 e.symm
  · rintro rfl
    exact n2 hor

theorem flat_len (ts : List Tk) (k : Nat) (hk : k < ts.length) : ((saysT (ts.take (k + 1))).flatMap fun t => writtenF t.1 t.2 ++ [32]).length = ((saysT (ts.take k)).flatMap fun t => writtenF t.1 t.2 ++ [32]).length + (writtenF ts[k].k ts[k].t.data.toList).length + 1 := by
  rw [List.take_succ_eq_append_getElem hk, saysT_append, List.flatMap_append, List.length_append]
  simp [saysT, Tk.says, Nat.add_assoc]
theorem flat_le (ts : List Tk) (k : Nat) : ((saysT (ts.take k)).flatMap fun t => writtenF t.1 t.2 ++ [32]).length ≤ ((saysT ts).flatMap fun t => writtenF t.1 t.2 ++ [32]).length := by
  have e : saysT ts = saysT (ts.take k) ++ saysT (ts.drop k) := by rw [← saysT_append, List.take_append_drop]
  rw [e, List.flatMap_append, List.length_append]
  omega

/-- two builders beside one another -/
structure Pr (B b b' : Nat) (r r' : Option Nat) (l l' : List UInt8) (w : World) : Prop where
  fst : Bw B b r l w
  snd : Bw B b' r' l' w
  rows : ∀ g, r = some g → r' ≠ some g
  blocks : b' ≠ b
  none_ : l = [] → r = none
  none' : l' = [] → r' = none
section
variable {B b b' : Nat} {r r' q : Option Nat} {l l' m : List UInt8} {w w' : World}
theorem Pr.next (h : Pr B b b' r r' l l' w) (hb : Below w.heap.size w w') : Pr B b b' r r' l l' w' := ⟨h.fst.next hb, h.snd.next hb, h.rows, h.blocks, h.none_, h.none'⟩
theorem Pr.wrote (h : Pr B b b' r r' l l' w) (hb : Bw B b q m w') (ho : q = r ∨ q = none ∨ ∃ g, q = some g ∧ w.heap.size ≤ g) (hs : Spared b r w w') (hm : m ≠ []) : Pr B b b' q r' m l' w' := by
  refine ⟨hb, h.fst.other h.snd hs h.blocks h.rows, fun g hg e => ?_, h.blocks, fun e => absurd e hm, h.none'⟩
  rcases ho with rfl | rfl | ⟨g', rfl, hle⟩
  · exact h.rows g hg e
  · cases hg
  · injection hg with hg
    subst hg
    have := (h.snd.row _ e).2.1
    omega
theorem Pr.wrote' (h : Pr B b b' r r' l l' w) (hb : Bw B b' q m w') (ho : q = r' ∨ q = none ∨ ∃ g, q = some g ∧ w.heap.size ≤ g) (hs : Spared b' r' w w') (hm : m ≠ []) : Pr B b b' r q l m w' := by
  refine ⟨h.snd.other h.fst hs h.blocks.symm (fun g hg e => h.rows g e hg), hb, fun g hg e => ?_, h.blocks, h.none_, fun e => absurd e hm⟩
  rcases ho with rfl | rfl | ⟨g', rfl, hle⟩
  · exact h.rows g hg e
  · cases e
  · injection e with e
    subst e
    have := (h.fst.row _ hg).2.1
    omega
end
/-- what the two builders hold, k tokens written -/
structure Two (B : Nat) (wb : World) (ts : List Tk) (k : Nat) (w : World) : Prop where
  ex : ∃ r r' l l', Pr B B (B + 1) r r' l l' w ∧ Says l (saysT (ts.take k)) ∧ Says l' (saysT (ts.take k)) ∧
    l.length = ((saysT (ts.take k)).flatMap fun t => writtenF t.1 t.2 ++ [32]).length ∧ l'.length ≤ l.length + 5 * k
  below : Below B wb w
theorem Two.start (w : World) (ts : List Tk) : Two w.heap.size w ts 0 ((w.alloc (.cells #[.pointer none, .slice none 0 0] 42)).alloc (.cells #[.pointer none, .slice none 0 0] 42)) := by
  have h1 := (Bw.new w w.heap.size (Nat.le_refl _)).next (kp_new _ (.cells #[.pointer none, .slice none 0 0] 42))
  have h2 := Bw.new (w.alloc (.cells #[.pointer none, .slice none 0 0] 42)) w.heap.size (by simp)
  have hz : (w.alloc (.cells #[.pointer none, .slice none 0 0] 42)).heap.size = w.heap.size + 1 := by simp
  rw [hz] at h2
  exact ⟨⟨none, none, [], [], ⟨h1, h2, fun g hg => (by cases hg), (by omega), fun _ => rfl, fun _ => rfl⟩, by simpa [saysT] using Says.nil, by simpa [saysT] using Says.nil, by simp [saysT], by simp⟩, kp_alloc (kp_new _ _) _⟩

set_option maxHeartbeats 16000000 in
theorem classSame_walk (A : Option Addr) (n c : Nat) (ts : List Tk) (w : World) (hr : TR w A n ts) (ht : ∀ t ∈ ts, t.t.size ≤ 140737488351232) (hnc : n ≤ c) (hc : c * 24 ≤ 140737488351232) (hL : Lw w) :
    Calls Tryz.prog 5 #[.slice A n c] w fun e w' => e = .returned (.bool true) ∧ Below w.heap.size w w' := by
  have HA := Lib.hid (awake5 w hL)
  obtain ⟨i0, hi, hz0, hz1, hz2⟩ := info_parts tkinfoR
  have HTS := Lib.hid ht
  have hlen := Lib.hid hr.len
  clear ht
  go_enter Tryz.func5, Tryz.ntmps5
  go_wp2_with fail
  refine HA.out.mono ?_
  rintro e w0 ⟨rfl, k0⟩
  have hr0 := hr.next k0
  clear HA
  go_wp2_with fail
  go_loopw [3, 18] (fun o i wr => ∃ (k : Nat) (B : Option Addr) (d : Nat), k ≤ n ∧ i = .int .i64 k ∧ o = .slice B k d ∧ OT 33 wr w0.heap.size B k d (ts.take k) ∧ Hid (∀ t ∈ ts.take k, rightF t.k t.t.data.toList = true ∧ t.k ≠ 5) ∧ Below w0.heap.size w0 wr) (fun _ i _ => n - (intOf i).toNat)
  case atStart => exact ⟨0, none, 0, Nat.zero_le _, rfl, rfl, OT.nil _ _ _, Lib.hid (by simp), Below.refl _ _⟩
  case round =>
    obtain ⟨k, B, d, hk, rfl, rfl, ho, hx, kw⟩ := hrel
    by_cases hlt : k < n
    · have hkl : k < ts.length := by rw [hlen.out]; exact hlt
      obtain ⟨ad, rfl, _, hcs⟩ := hr0.at_ hkl
      obtain ⟨c0, c1⟩ := hcs _ kw
      have hnx : Hid (tkC (ts.take (k + 1)) = tkC (ts.take k) ++ [.int .i64 ts[k].k, .string ts[k].t]) := Lib.hid (tkC_next ts k hkl)
      have hR := fun u => rright_ok ts[k].k ts[k].t u (HTS.out _ (List.getElem_mem hkl))
      unfold RightTo at hR
      have hst : rightF ts[k].k ts[k].t.data.toList = true → ts[k].k ≠ 5 → ∀ t ∈ ts.take (k + 1), rightF t.k t.t.data.toList = true ∧ t.k ≠ 5 := fun h1 h5 t htm => by
        rw [List.take_succ_eq_append_getElem hkl] at htm
        rcases List.mem_append.1 htm with h | h
        · exact hx.out t h
        · rw [List.mem_singleton.1 h]; exact ⟨h1, h5⟩
      have hkn : Below w0.heap.size w0 (wr.alloc (.cells #[.int .i64 ts[k].k, .string ts[k].t] 35)) := kp_alloc kw _
      have hsw := kw.size
      have HST := Lib.hid hst
      clear hcs hst
      generalize rightF ts[k].k ts[k].t.data.toList = b at *
      generalize ts[k].k = x at *
      generalize ts[k].t = s at *
      have HR := Lib.hid (hR (wr.alloc (.cells #[.int .i64 x, .string s] 35)))
      clear hR
      by_cases h5 : x = 5
      · subst h5
        clear HR HST
        go_wp2_with fail
        go_ret
        exact ⟨rfl, kp_trans k0 hkn⟩
      · have f5 : (x == 5) = false := by simpa using h5
        cases b
        · clear HST
          go_wp2_with fail
          refine HR.out.mono ?_
          rintro e w1 ⟨rfl, k1⟩
          go_wp2_with fail
          go_ret
          exact ⟨rfl, kp_trans k0 (kp_trans hkn k1)⟩
        · have hx2 := Lib.hid (HST.out rfl h5)
          clear HST hx
          go_wp2_with fail
          refine HR.out.mono ?_
          rintro e w1 ⟨rfl, k1⟩
          obtain ⟨q0, q1⟩ := pair_kept k1
          have hkr := kp_trans (kp_alloc (Below.refl wr.heap.size wr) (.cells #[.int .i64 x, .string s] 35)) k1
          have ho1 := ho.next hkr
          have kw1 := kp_trans kw hkr
          have hsrc : Rd (w1.alloc (.cells #[.int .i64 x, .string s] 33)) (w1.heap.size + 1) (some ⟨w1.heap.size, 0, none⟩) [.int .i64 x, .string s] := by
            have := Rd.new w1 33 [.int .i64 x, .string s]
            simpa using this
          have HSRC := Lib.hid hsrc
          have hs1 := kw1.size
          clear hsrc HR c0 c1 ho hkr
          go_wp2_with (at_builtin; refine wpList_append_rds rfl _ _ _ rfl w0.heap.size 33 i0 _ 2 24 Tryz.underlying28 hi hz0 hz1 hz2 rfl (by omega) _ k _ rfl (ho1.own.alloc _) _ _ _ _ [.int .i64 x, .string s] rfl rfl HSRC.out (by simp [Value.oneCell']) (by unfold maxLen; omega) (by omega) (by simp; omega) ?_; intro v3 w3 hown3 hg3)
          rw [← hnx.out] at hown3
          obtain ⟨A3, c3, rfl, h3, _⟩ := own_form_s hown3
          go_roundw
          case rel => exact ⟨k + 1, A3, c3, by omega, by go_num, rfl, ⟨hown3, h3⟩, hx2, (kp_alloc kw1 _).trans (below_own_s (ho1.own.alloc _) hg3 (by simp; omega))⟩
          case measure => simp [intOf]; omega
    · obtain rfl : k = n := by omega
      rw [List.take_of_length_le (by rw [hlen.out]; exact Nat.le_refl _)] at ho hx
      have kw0 := kp_trans k0 kw
      have hLg := Lib.hid (tlarge_ok B k d ts wr ho.tr (by omega) HTS.out)
      by_cases hlg : 2000 < sumT ts
      · rw [decide_eq_true hlg] at hLg
        go_wp2_with fail
        refine hLg.out.mono ?_
        rintro e w4 ⟨rfl, rfl⟩
        go_wp2_with fail
        go_ret
        exact ⟨rfl, kw0⟩
      rw [decide_eq_false hlg] at hLg
      have hn : k ≤ 2000 := by
        have h1 := sumT_len ts
        have h2 := hlen.out
        omega
      have hmay : mayF ts = true := List.all_eq_true.2 fun t h => (hx.out t h).1
      have HW := Lib.hid (rwrite_ok B k d ts wr ho.tr (by omega) hmay)
      have hall : ∀ t ∈ saysT ts, rightF t.1 t.2 = true ∧ t.1 ≠ 5 := fun t h => by
        obtain ⟨x, hx1, rfl⟩ := List.mem_map.1 h
        exact hx.out x hx1
      have HALL := Lib.hid hall
      have hto := ho.tr
      clear hmay hall hx ho
      go_wp2_with fail
      refine hLg.out.mono ?_
      rintro e w1 ⟨rfl, rfl⟩
      go_wp2_with fail
      refine HW.out.mono ?_
      rintro e w2 ⟨s, rfl, hs, k2⟩
      have kw2 := kp_trans kw0 k2
      have hto2 := hto.next k2
      have hsl := text_len s
      clear hLg HW hto
      by_cases hlong : 150 < s.size
      · clear hs hsl
        go_wp2_with fail
        go_ret
        exact ⟨rfl, kw2⟩
      have hC : classA s.data.toList = classF (bodyF (saysT ts)) := classA_lex (by rw [hs]; exact lex_write _ HALL.out) (by omega)
      have hC0 : classF (bodyF (saysT ts)) ≠ 0 := classF_ne _
      have hcl := Lib.hid (newClasser_ok w2)
      have hcc := fun u hL hc => class_ok s w2.heap.size u (by unfold maxLen; omega) hL hc
      rw [hC] at hcc
      have HCC := Lib.hid hcc
      have hst : classA (s ++ ⟨#[32, 59, 32, 59]⟩ : ByteArray).data.toList = classF (bodyF (saysT ts)) := by
        rw [text_add, hs, ← body_stopped]
        refine classA_lex (lex_stopped _ fun t h => (HALL.out t h).1) ?_
        rw [List.length_append, ← hs]
        show _ + 4 ≤ 200
        omega
      have hcs := fun u hL hc => class_ok (s ++ ⟨#[32, 59, 32, 59]⟩) w2.heap.size u (by rw [ByteArray.size_append]; show _ + 4 ≤ _; unfold maxLen; omega) hL hc
      rw [hst] at hcs
      have HCS := Lib.hid hcs
      have hli : classA (⟨#[45, 45, 32, 120, 10]⟩ ++ s : ByteArray).data.toList = classF (bodyF (saysT ts)) := by
        rw [text_add, hs]
        refine classA_lex (says_line.then_ (lex_write _ HALL.out)) ?_
        rw [List.length_append, ← hs]
        show 5 + _ ≤ 200
        omega
      have hcx := fun u hL hc => class_ok (⟨#[45, 45, 32, 120, 10]⟩ ++ s) w2.heap.size u (by rw [ByteArray.size_append]; show 5 + _ ≤ _; unfold maxLen; omega) hL hc
      rw [hli] at hcx
      have HCX := Lib.hid hcx
      have hany : ∀ (r : ByteArray) (l : List UInt8) u, r.data.toList = l → Says l (saysT ts) → l.length ≤ 200 → Lw u → CL u w2.heap.size → Calls Tryz.prog 9 #[.pointer (some ⟨w2.heap.size, 0, none⟩), .string r] u fun e w' => e = .returned (.int .i64 (classF (bodyF (saysT ts)))) ∧ CL w' w2.heap.size ∧ Bel w2.heap.size u w' := fun r l u h1 h2 h3 hLu hCu => by
        have h4 := class_ok r w2.heap.size u (by rw [← text_len, h1]; unfold maxLen; omega) hLu hCu
        rw [h1, classA_lex h2.lex h3] at h4
        exact h4
      have HAny := Lib.hid hany
      have hwl : ((saysT ts).flatMap fun t => writtenF t.1 t.2 ++ [32]).length ≤ 151 := by
        have h1 : (writeF (saysT ts)).length ≤ 150 := by rw [← hs]; omega
        cases hq : saysT ts with
        | nil => simp
        | cons t r =>
          rw [hq] at h1
          have h2 := congrArg List.length (write_flat t r)
          rw [List.length_append] at h2
          rw [← h2]
          show _ + 1 ≤ 151
          omega
      have HWL := Lib.hid hwl
      clear hC hcc hcs hcx hst hli hany hwl
      generalize hCv : classF (bodyF (saysT ts)) = C at *
      have fC : (C != 0) = true := by simpa using hC0
      have HSL : Hid (s.size ≤ 150) := Lib.hid (by omega)
      clear hCv hC0 hs
      go_wp2_with fail
      refine hcl.out.mono ?_
      rintro e w3 ⟨rfl, c3, k3⟩
      have kw3 := kp_trans kw2 k3
      have hbw : w.heap.size ≤ w2.heap.size := kw2.size
      clear hcl
      go_wp2_with fail
      refine (HCC.out _ (hL.next kw3) c3).mono ?_
      rintro e w4 ⟨rfl, c4, b4⟩
      have kw4 : Below w.heap.size w w4 := kw3.trans (b4.below hbw kw3.size)
      have hto4 := hto2.next (k3.trans (b4.below (Nat.le_refl _) k3.size))
      clear HCC hto2 c3 b4
      have hT0 := Two.start w4 ts
      have HT0 := Lib.hid hT0
      clear hT0 k2 k3 kw0 kw2 kw3 hr hr0
      go_wp2_with fail
      go_loopw [48] (fun i wr => ∃ j : Nat, i = .int .i64 j ∧ j ≤ k ∧ Two w4.heap.size w4 ts j wr) (fun i _ => k - (intOf i).toNat)
      case atStart => exact ⟨0, rfl, Nat.zero_le _, HT0.out⟩
      case round =>
        obtain ⟨j, rfl, hj, ⟨r1, r2, l1, l2, hP, s1, s2, e1, e2⟩, kb⟩ := hrel
        clear HT0
        have kwr := kp_trans kw4 kb
        by_cases hjl : j < k
        · have hkl : j < ts.length := by rw [hlen.out]; exact hjl
          obtain ⟨ad, rfl, _, hcs⟩ := hto4.at_ hkl
          obtain ⟨c0, c1⟩ := hcs wr kb
          have hsum := sumT_at hkl
          have hfl := flat_len ts j hkl
          have hfl2 := flat_le ts (j + 1)
          have hwl := HWL.out
          have hright : rightF ts[j].k ts[j].t.data.toList = true := (HALL.out ts[j].says (List.mem_map.2 ⟨_, List.getElem_mem hkl, rfl⟩)).1
          have hnx : saysT (ts.take (j + 1)) = saysT (ts.take j) ++ [ts[j].says] := by
            rw [List.take_succ_eq_append_getElem hkl, saysT_append]
            rfl
          have n1 : Says (l1 ++ (smallF ts[j].says ++ [32])) (saysT (ts.take (j + 1))) := by
            rw [hnx]
            exact s1.add (says_smallF _ hright)
          have n2 : Says (l2 ++ (writtenF ts[j].k ts[j].t.data.toList ++ [32])) (saysT (ts.take (j + 1))) := by
            rw [hnx]
            exact s2.add (says_written _ _ hright 32 (by decide))
          have n3 : Says (l2 ++ ([47, 42, 59, 42, 47] ++ writtenF ts[j].k ts[j].t.data.toList ++ [10])) (saysT (ts.take (j + 1))) := by
            rw [hnx, List.append_assoc [47, 42, 59, 42, 47]]
            exact s2.add (says_remark.add (says_written _ _ hright 10 (by decide)))
          have hsm : ts[j].k = 1 → smallF ts[j].says = (writtenF ts[j].k ts[j].t.data.toList).map Lib.lowerB ∧ ∀ c ∈ writtenF ts[j].k ts[j].t.data.toList, lowAscii c = true := fun h => by
            have hw : writtenF ts[j].k ts[j].t.data.toList = ts[j].t.data.toList := by rw [h]; rfl
            refine ⟨if_pos h, fun c hc => ?_⟩
            rw [hw] at hc
            rw [h] at hright
            exact decide_eq_true (word_ascii hright c hc)
          have hsn : ts[j].k ≠ 1 → smallF ts[j].says = writtenF ts[j].k ts[j].t.data.toList := fun h => if_neg h
          have hsl2 := smallF_len ts[j].says
          change (smallF ts[j].says).length = (writtenF ts[j].k ts[j].t.data.toList).length at hsl2
          have hm1 : mayF [(⟨ts[j].k, ts[j].t⟩ : Tk)] = true := by simp [mayF, hright]
          have hwo : writeF (saysT [(⟨ts[j].k, ts[j].t⟩ : Tk)]) = writtenF ts[j].k ts[j].t.data.toList := by simp [writeF, saysT, Tk.says]
          generalize smallF ts[j].says = sm at *
          generalize ts[j].k = x at *
          generalize ts[j].t = y at *
          generalize writtenF x y.data.toList = wx at *
          have N1 := Lib.hid n1
          have N2 := Lib.hid n2
          have N3 := Lib.hid n3
          have HSM := Lib.hid hsm
          have HSN := Lib.hid hsn
          have HE1 := Lib.hid e1
          have HFL := Lib.hid hfl
          have HL1 : Hid (sm.length = wx.length ∧ l1.length + wx.length + 1 ≤ 151) := Lib.hid ⟨hsl2, by omega⟩
          have HL2 : Hid (l2.length ≤ l1.length + 5 * j) := Lib.hid e2
          have hy : y.size ≤ 2000 := by omega
          clear hcs n1 n2 n3 hsm hsn hsl2 hfl hfl2 hwl e1 e2 hnx hright s1 s2
          have hTR : TR ((wr.alloc (.cells #[.int .i64 x, .string y] 33)).alloc (.cells #[.int .i64 x, .string y] 33)) (some ⟨wr.heap.size + 1, 0, none⟩) 1 [⟨x, y⟩] := by
            have h := Rd.new (wr.alloc (.cells #[.int .i64 x, .string y] 33)) 33 [.int .i64 x, .string y]
            have hz : (wr.alloc (.cells #[.int .i64 x, .string y] 33)).heap.size = wr.heap.size + 1 := by simp
            rw [hz] at h
            exact ⟨rfl, by rw [show ((wr.alloc (.cells #[.int .i64 x, .string y] 33)).alloc (.cells #[.int .i64 x, .string y] 33)).heap.size = wr.heap.size + 1 + 1 from by simp]; exact h⟩
          have hsm1 : sumT [(⟨x, y⟩ : Tk)] = y.size + 1 := by simp [sumT]
          have HW := Lib.hid (rwrite_ok _ 1 1 [⟨x, y⟩] _ hTR (by omega) hm1)
          have k1 := kp_new wr (.cells #[.int .i64 x, .string y] 33)
          have k2 := kp_new (wr.alloc (.cells #[.int .i64 x, .string y] 33)) (.cells #[.int .i64 x, .string y] 33)
          clear hTR hsm1 hm1
          go_wp2_with fail
          refine HW.out.mono ?_
          rintro e w6 ⟨r, rfl, hrr, k6⟩
          obtain ⟨q0, q1⟩ := pair_kept (kp_trans k2 k6)
          have kr6 := kp_trans k1 (kp_trans k2 k6)
          have hP6 := hP.next kr6
          have kb6 := kp_trans kb kr6
          rw [hwo] at hrr
          have hrl := text_len r
          rw [hrr] at hrl
          have HRR := Lib.hid hrr
          have hrs : r.size ≤ 150 := by have := HL1.out.2; omega
          have hbl : wr.heap.size < w6.heap.size := Nat.lt_of_lt_of_le (by simp) (kp_trans k2 k6).size
          clear hrr k1 k2 k6 hP kr6 HW hwo
          by_cases h1 : x = 1
          focus
            subst h1
            obtain ⟨g1, g2⟩ := HSM.out rfl
            have HLo := Lib.hid (lower_s r w6 (by omega) (by rw [HRR.out]; exact g2))
            clear HSM HSN
            go_wp2_with fail
            refine HLo.out.mono ?_
            rintro e w7 ⟨r7, rfl, hr7, k7⟩
            rw [HRR.out, ← g1] at hr7
            have hq : (r7 ++ ⟨#[32]⟩ : ByteArray).data.toList = sm ++ [32] := by rw [text_add, hr7]
            have hqs : (r7 ++ ⟨#[32]⟩ : ByteArray).size ≤ 1000 := by
              rw [← text_len, hq, List.length_append, HL1.out.1]
              have := HL1.out.2
              show _ + 1 ≤ _
              omega
            have hz1 : (⟨#[32]⟩ : ByteArray).size = 1 := rfl
            have h7s : r7.size ≤ 1000 := by rw [ByteArray.size_append] at hqs; omega
            have hP7 := hP6.next k7
            have kb7 := kp_trans kb6 k7
            have HS := Lib.hid (writeString_x w4.heap.size w4.heap.size r1 l1 (r7 ++ ⟨#[32]⟩) w7 hP7.fst (by have := HL1.out.2; omega) (by omega) kb7.size)
            have q2 := (k7.cell (p := ⟨wr.heap.size, 0, none⟩) hbl).trans q0
            clear q0 q1
            have q0 := q2
            clear q2 k7 HLo hqs g1 g2 hr7
            rw [hq] at HS
            clear hq
            go_wp2_with fail
            refine HS.out.mono ?_
            rintro e w8 ⟨rfl, r1', hB8, ho8, kb8, hs8⟩
            have hP8 := hP7.wrote hB8 ho8 hs8 (by simp)
            have kz8 := kb7.trans kb8
            clear HS
            go_wp2_with fail
          rotate_left
          focus
            have g1 := HSN.out h1
            have f1 : (x == 1) = false := by simpa using h1
            have hq : (r ++ ⟨#[32]⟩ : ByteArray).data.toList = sm ++ [32] := by rw [text_add, HRR.out, ← g1]
            have hz1 : (⟨#[32]⟩ : ByteArray).size = 1 := rfl
            have hqs : (r ++ ⟨#[32]⟩ : ByteArray).size ≤ 1000 := by rw [ByteArray.size_append]; omega
            have HS := Lib.hid (writeString_x w4.heap.size w4.heap.size r1 l1 (r ++ ⟨#[32]⟩) w6 hP6.fst (by have := HL1.out.2; omega) (by omega) kb6.size)
            clear HSM HSN hqs g1 h1
            rw [hq] at HS
            clear hq
            go_wp2_with fail
            refine HS.out.mono ?_
            rintro e w8 ⟨rfl, r1', hB8, ho8, kb8, hs8⟩
            have hP8 := hP6.wrote hB8 ho8 hs8 (by simp)
            have kz8 := kb6.trans kb8
            clear HS
            go_wp2_with fail
          rotate_left
          all_goals
            have HLn := Lib.hid (len_s w4.heap.size (w4.heap.size + 1) l2 w8 hP8.snd.bd)
            have hl2 : l2.length ≤ 20000 := by have := HL1.out.2; have := HL2.out; omega
            clear hB8 ho8 kb8 hs8 q0
            refine HLn.out.mono ?_
            rintro e w9 ⟨rfl, rfl⟩
            clear HLn
            have hz1 : (⟨#[32]⟩ : ByteArray).size = 1 := rfl
            have hz2 : (⟨#[47, 42, 59, 42, 47]⟩ : ByteArray).size = 5 := rfl
            have hz3 : (⟨#[10]⟩ : ByteArray).size = 1 := rfl
            by_cases hlt : l2.length < 100
            · have hq : (⟨#[47, 42, 59, 42, 47]⟩ ++ r ++ ⟨#[10]⟩ : ByteArray).data.toList = [47, 42, 59, 42, 47] ++ wx ++ [10] := by rw [text_add, text_add, HRR.out]
              have hy1 : (⟨#[47, 42, 59, 42, 47]⟩ ++ r : ByteArray).size ≤ 1000 := by rw [ByteArray.size_append]; omega
              have hqs : (⟨#[47, 42, 59, 42, 47]⟩ ++ r ++ ⟨#[10]⟩ : ByteArray).size ≤ 1000 := by rw [ByteArray.size_append, ByteArray.size_append]; omega
              have HS := Lib.hid (writeString_x w4.heap.size (w4.heap.size + 1) r2 l2 (⟨#[47, 42, 59, 42, 47]⟩ ++ r ++ ⟨#[10]⟩) w9 hP8.snd (by omega) (by omega) kz8.size)
              rw [hq] at HS
              clear hq hqs
              go_wp2_with fail
              refine HS.out.mono ?_
              rintro e w10 ⟨rfl, r2', hB10, ho10, kb10, hs10⟩
              have hP10 := hP8.wrote' hB10 ho10 hs10 (by simp)
              clear HS
              go_wp2_with fail
              go_roundw
              case rel =>
                exact ⟨j + 1, by go_num, by omega, ⟨⟨r1', r2', _, _, hP10, N1.out, N3.out, by rw [HFL.out, ← HE1.out]; simp [HL1.out.1]; omega, by have := HL1.out.1; have := HL2.out; simp; omega⟩, kz8.trans kb10⟩⟩
              case measure => simp [intOf]; omega
            · have hq : (r ++ ⟨#[32]⟩ : ByteArray).data.toList = wx ++ [32] := by rw [text_add, HRR.out]
              have hqs : (r ++ ⟨#[32]⟩ : ByteArray).size ≤ 1000 := by rw [ByteArray.size_append]; omega
              have HS := Lib.hid (writeString_x w4.heap.size (w4.heap.size + 1) r2 l2 (r ++ ⟨#[32]⟩) w9 hP8.snd (by omega) (by omega) kz8.size)
              rw [hq] at HS
              clear hq hqs
              go_wp2_with fail
              refine HS.out.mono ?_
              rintro e w10 ⟨rfl, r2', hB10, ho10, kb10, hs10⟩
              have hP10 := hP8.wrote' hB10 ho10 hs10 (by simp)
              clear HS
              go_wp2_with fail
              go_roundw
              case rel =>
                exact ⟨j + 1, by go_num, by omega, ⟨⟨r1', r2', _, _, hP10, N1.out, N2.out, by rw [HFL.out, ← HE1.out]; simp [HL1.out.1]; omega, by have := HL1.out.1; have := HL2.out; simp; omega⟩, kz8.trans kb10⟩⟩
              case measure => simp [intOf]; omega
        · obtain rfl : k = j := by omega
          rw [List.take_of_length_le (by rw [hlen.out]; exact Nat.le_refl _)] at s1 s2 e1
          have hl1 : l1.length ≤ 151 := by rw [e1]; exact HWL.out
          have hcr := c4.next kb
          have HLn := Lib.hid (len_s w4.heap.size (w4.heap.size + 1) l2 wr hP.snd.bd)
          have hl2 : l2.length ≤ 20000 := by omega
          have HSy := Lib.hid (string_y w4.heap.size w4.heap.size r1 l1 wr hP.fst hP.none_)
          clear e1 e2 HWL HALL hto4
          go_wp2_with fail
          refine HLn.out.mono ?_
          rintro e w5 ⟨rfl, rfl⟩
          clear HLn
          by_cases hwide : 195 < l2.length
          · go_wp2_with fail
            refine HSy.out.mono ?_
            rintro e w6 ⟨q, rfl, hq, kb6, hs6⟩
            have kb' := kb.trans kb6
            have HCl := Lib.hid (HAny.out q l1 w6 hq s1 (by omega) (hL.next (kp_trans kw4 kb')) (c4.next kb'))
            clear HSy
            go_wp2_with fail
            refine HCl.out.mono ?_
            rintro e w7 ⟨rfl, c7, b7⟩
            go_wp2_with fail
            go_ret
            have kk := kp_trans kw4 kb'
            exact ⟨rfl, kk.trans (b7.below hbw kk.size)⟩
          · have hsl3 := HSL.out
            have hz1 : (⟨#[32, 59, 32, 59]⟩ : ByteArray).size = 4 := rfl
            have hz2 : (⟨#[45, 45, 32, 120, 10]⟩ : ByteArray).size = 5 := rfl
            go_wp2_with fail
            refine HSy.out.mono ?_
            rintro e w6 ⟨q, rfl, hq, kb6, hs6⟩
            have kb' := kb.trans kb6
            have k6 := kp_trans kw4 kb'
            have c6 := c4.next kb'
            have hW6 := hP.fst.other hP.snd hs6 hP.blocks hP.rows
            have HCl := Lib.hid (HAny.out q l1 w6 hq s1 (by omega) (hL.next k6) c6)
            have hN2 := hP.none'
            clear HSy hs6 kb6 hP
            go_wp2_with fail
            refine HCl.out.mono ?_
            rintro e w7 ⟨rfl, c7, b7⟩
            have k7 := k6.trans (b7.below hbw k6.size)
            have hW7 := hW6.bel c6 b7
            have HSz := Lib.hid (string_y w4.heap.size (w4.heap.size + 1) r2 l2 w7 hW7 hN2)
            clear HCl c6 b7 hW6 kb'
            go_wp2_with fail
            refine HSz.out.mono ?_
            rintro e w8 ⟨q2, rfl, hq2, kb8, hs8⟩
            have k8 := k7.trans (kb8.mono kw4.size)
            have c8 := c7.spared hW7 hs8
            have HCl := Lib.hid (HAny.out q2 l2 w8 hq2 s2 (by omega) (hL.next k8) c8)
            clear HSz hs8 kb8 hW7 c7
            go_wp2_with fail
            refine HCl.out.mono ?_
            rintro e w9 ⟨rfl, c9, b9⟩
            have k9 := k8.trans (b9.below hbw k8.size)
            have HCl2 := Lib.hid (HCS.out w9 (hL.next k9) c9)
            clear HCl c8 b9 HCS HAny
            go_wp2_with fail
            refine HCl2.out.mono ?_
            rintro e w10 ⟨rfl, c10, b10⟩
            have k10 := k9.trans (b10.below hbw k9.size)
            have HCl3 := Lib.hid (HCX.out w10 (hL.next k10) c10)
            clear HCl2 c9 b10 HCX
            go_wp2_with fail
            refine HCl3.out.mono ?_
            rintro e w11 ⟨rfl, c11, b11⟩
            go_wp2_with fail
            go_ret
            exact ⟨rfl, k10.trans (b11.below hbw k10.size)⟩
end

/- From a walk to a law's row: arguments opened, and shut behind a call that left alone what was there before it. -/
section
open Go.RowKit Go.ChangeShapes Go.WideShapes Go.ChangeAt

theorem own0 : ownKnob Tryz.prog.godebug = none := by kernel_rfl
theorem laid0 : laidOutB Tryz.prog = true := by kernel_rfl

section
variable {H : Type} {enc : TypeId × Value → H} {P : Program}
theorem trodAll_later {W W' : World} (hl : laidOutB P = true) (hb : Below W.heap.size W W') : ∀ (ts : List TypeId) (vs : List Value) (ds : List (DataW H)) (ps : List MemPlace),
    (∀ t ∈ ts, P.readableRec t = true ∧ t < P.types.size) → DataW.TrodAll enc P W 0 (fun _ => true) true ts vs ds ps → (∀ x ∈ ps, x.block < W.heap.size) →
    DataW.TrodAll enc P W' 0 (fun b => decide (b < W.heap.size)) true ts vs ds ps
  | [], vs, ds, ps, _, h, _ => by
    cases vs <;> cases ds <;> simp [DataW.TrodAll] at h ⊢
    exact h
  | t :: ts, vs, ds, ps, ht, h, hlt => by
    obtain ⟨v, vs', d, ds', p, q, rfl, rfl, rfl, h1, h2⟩ := trodAll_cons h
    have h3 := Below.trod hl (ht t (by simp)).1 (ht t (by simp)).2 h1 hb (fun x hx => hlt x (by simp [hx]))
    have h4 := trodAll_later hl hb ts vs' ds' q (fun u hu => ht u (by simp [hu])) h2 (fun x hx => hlt x (by simp [hx]))
    exact trodAll_cons_mk h3 h4

/-- a law that answers true, and leaves alone what was there -/
theorem law_post {f : Func} {s : ChangeSpec} {tb : TypeId} {W W' : World} {args : Array Value} {ds gs : List (DataW H)} {before : List MemPlace}
    (hl : laidOutB P = true) (hts : ∀ t ∈ f.params.toList, P.readableRec t = true ∧ t < P.types.size) (hv : s.vars = []) (hrt : f.resultTypes = #[tb]) (htb : P.underlying tb = some .bool)
    (hW : DataW.Whole enc P f.params.toList s.vars false W args.toList ds gs before) (hfn : s.fn H (ds ++ gs) = { results := [.lit (.bool true)], args := ds })
    (hb : Below W.heap.size W W') : s.post enc P f false true false false W args (.bool true) W' := by
  have hlt : ∀ p ∈ before, p.block < W.heap.size := fun p hp => hW.lt p hp
  have hW' := hW
  obtain ⟨p, q, hA, hV, rfl, _, _⟩ := hW
  rw [hv] at hV
  obtain ⟨rfl, rfl⟩ := trodVars_none hV
  refine ⟨ds, [], p ++ [], [], p, [], hW', ?_, ?_, ?_, World.keptBut_mono (fun x hx => ⟨hx, .inr (.inl (by simpa using hx))⟩) (hb.frame (· ∈ p ++ [])), fun h => by cases h⟩
  · rw [hfn, hrt]
    exact trodAll_mk1 (shut_bool htb true)
  · rw [hfn]
    exact trodAll_later hl hb _ _ _ _ hts hA (fun x hx => hlt x (by simp [hx]))
  · rw [hfn, hv]
    simp [DataW.TrodVars]

theorem mapM_getD (zs : List Int) (h : ∀ n ∈ zs, (Lit.int .u8 n).wf = true) : (zs.map fun n => bv (UInt8.ofNat n.toNat)) = zs.map (Value.int .u8) := by
  apply List.map_congr_left
  intro n hn
  have hw := h n hn
  simp [Lit.wf, IntKind.min, IntKind.max, IntKind.signed, IntKind.bits] at hw
  simp only [bv, UInt8.toNat_ofNat']
  congr 1
  omega

/-- an argument that is a slice of bytes -/
theorem open_bytes {r : Reach} {b0 : Nat} {W : World} {t e : TypeId} {v : Value} {d : DataW H} {ps : List MemPlace} (ht : P.underlying t = some (.slice e)) (he : P.underlying e = some (.int .u8)) (hc : P.cellsOf e = 1)
    (hval : Value.okWide P W r b0 t v) (h : DataW.Trod enc P W 0 (fun _ => true) true t v d ps) :
    ∃ A l c bs, v = .slice A l c ∧ Sl W W.heap.size A l c bs ∧ c ≤ 9223372036854775807 := by
  obtain ⟨a, l, c, rfl⟩ := okWide_slice ht hval
  obtain ⟨fuel, hf⟩ := h
  rcases open_ints ht he hc hf with ⟨hcs, _⟩ | ⟨ad, len, cap, zs, hcs, _, hle, hmax, hzl, _, hcell, hwf⟩
  · simp [Value.cells] at hcs
    obtain ⟨rfl, rfl, rfl⟩ := hcs
    exact ⟨none, 0, 0, [], rfl, Sl.nil _ _, by omega⟩
  · simp [Value.cells] at hcs
    obtain ⟨rfl, rfl, rfl⟩ := hcs
    simp only [if_true] at hzl
    refine ⟨some ad, l, c, (zs.take l).map fun n => UInt8.ofNat n.toNat, rfl, ⟨?_, by simp; omega, hle⟩, by unfold maxLen at hmax; omega⟩
    have e1 : bvs ((zs.take l).map fun n => UInt8.ofNat n.toNat) = (zs.take l).map (Value.int .u8) := by
      rw [bvs, List.map_map]
      exact mapM_getD (zs.take l) (fun n hn => hwf n (List.mem_of_mem_take hn))
    rw [e1]
    rcases Nat.eq_zero_or_pos l with rfl | hpos
    · exact .inl (by simp)
    · have hc0 : ∀ i, i < zs.length → W.cell? (ad.add i) = some (.int .u8 (zs.getD i 0)) := hcell
      refine .inr ⟨ad, rfl, ?_, fun j u hu => ?_⟩
      · have := World.block_lt_of_cell? W _ (hc0 0 (by omega))
        rwa [add_block] at this
      · have hj : j < l := by
          have := (List.getElem?_eq_some_iff.1 hu).1
          simp at this
          omega
        rw [hc0 j (by omega)]
        rw [List.getElem?_map, List.getElem?_take_of_lt hj, List.getElem?_eq_getElem (by omega)] at hu
        simp at hu
        rw [← hu]
        simp [List.getD, List.getElem?_eq_getElem (show j < zs.length by omega)]
end
theorem wf64 {a : Int} (h : (Lit.int .i64 a).wf = true) : -9223372036854775808 ≤ a ∧ a ≤ 9223372036854775807 := by
  simpa [Lit.wf, IntKind.min, IntKind.max, IntKind.signed, IntKind.bits] using h
theorem wfu64 {a : Int} (h : (Lit.int .u64 a).wf = true) : ∃ n : Nat, a = n ∧ n < 18446744073709551616 := by
  have h2 : 0 ≤ a ∧ a ≤ 18446744073709551615 := by simpa [Lit.wf, IntKind.min, IntKind.max, IntKind.signed, IntKind.bits] using h
  exact ⟨a.toNat, by omega, by omega⟩
end

/- Arguments that are slices of plain data, or structs of them, opened: rows of any elements, and how much they weigh. -/
section
open Go.RowKit Go.ChangeShapes Go.WideShapes Go.ChangeAt
set_option maxRecDepth 100000

section
variable {H : Type} {enc : TypeId × Value → H} {P : Program} {W : World}

/-- what a datum weighs is within reach -/
def Light (P : Program) (t : TypeId) (d : DataW H) : Prop := ∀ n ∈ d.weights P t, n ≤ 140737488351232
theorem light_of {ts : List TypeId} {ds : List (DataW H)} (h : (DataW.weightsEach P ts ds).all (· ≤ reachBytes) = true) {j : Nat} {t : TypeId} {d : DataW H} (ht : ts[j]? = some t) (hd : ds[j]? = some d) : Light P t d := fun n hn => by
  have := List.all_eq_true.1 h _ (DataW.weights_mem_each ht hd n hn)
  have h2 : n ≤ reachBytes := by simpa using this
  exact h2
theorem weightsAll_mem {e : TypeId} {ds : List (DataW H)} {d : DataW H} (h : d ∈ ds) {n : Nat} (hn : n ∈ d.weights P e) : n ∈ DataW.weightsAll P e ds := by
  induction ds with
  | nil => simp at h
  | cons x r ih =>
    simp only [DataW.weightsAll, List.mem_append]
    rcases List.mem_cons.1 h with rfl | h
    · exact .inl hn
    · exact .inr (ih h)
theorem Light.slice {t e : TypeId} {elems spare : List (DataW H)} (ht : P.underlying t = some (.slice e)) (h : Light P t (.slice elems spare)) : (elems.length + spare.length) * P.bytesOf e ≤ 140737488351232 ∧ (∀ d ∈ elems, Light P e d) ∧ ∀ d ∈ spare, Light P e d := by
  unfold Light at *
  simp only [DataW.weights, ht] at h
  refine ⟨h _ (by simp), fun d hd n hn => h n ?_, fun d hd n hn => h n ?_⟩
  · exact List.mem_cons_of_mem _ (List.mem_append_left _ (weightsAll_mem hd hn))
  · exact List.mem_cons_of_mem _ (List.mem_append_right _ (weightsAll_mem hd hn))
theorem Light.field {t : TypeId} {fs : Array Field} {parts : List (DataW H)} (ht : P.underlying t = some (.struct fs)) (h : Light P t (.agg parts)) {j : Nat} {f : Field} {d : DataW H} (hf : fs[j]? = some f) (hd : parts[j]? = some d) : Light P f.type d := by
  unfold Light at *
  simp only [DataW.weights, ht] at h
  exact fun n hn => h n (DataW.weights_mem_each (t := f.type) (by simp [hf]) hd n hn)
theorem Light.string {t : TypeId} {s : List UInt8} (h : Light P t (.lit (.string s) : DataW H)) : s.length ≤ 140737488351232 := h _ (by simp [DataW.weights])

/-- cells behind cells are read -/
theorem reads_append {ad : Addr} {xs ys : List Value} (h1 : ∀ j u, xs[j]? = some u → W.cell? (ad.add j) = some u) (h2 : ∀ j u, ys[j]? = some u → W.cell? ((ad.add xs.length).add j) = some u) :
    ∀ j u, (xs ++ ys)[j]? = some u → W.cell? (ad.add j) = some u := by
  intro j u hu
  rcases Nat.lt_or_ge j xs.length with h | h
  · rw [List.getElem?_append_left h] at hu
    exact h1 j u hu
  · rw [List.getElem?_append_right h] at hu
    have := h2 _ u hu
    rwa [add_add, show xs.length + (j - xs.length) = j by omega] at this

/-- a row of elements of any kind, of 'size' cells each -/
theorem open_rows {R : Type} [Inhabited R] {t e : TypeId} {size bytes fuel : Nat} {cs : List Value} {x : DataW H × List MemPlace} {cells : R → List Value} {OK : R → Prop}
    (ht : P.underlying t = some (.slice e)) (hsz : P.cellsOf e = size) (hby : P.bytesOf e = bytes) (hpos : 0 < size)
    (he : ∀ n cs' x', DataW.trod enc P W 0 (fun _ => true) true n e cs' = some x' → Light P e x'.1 → ∃ r, cs' = cells r ∧ OK r)
    (h : DataW.trod enc P W 0 (fun _ => true) true fuel t cs = some x) (hw : Light P t x.1) :
    ∃ A l c, ∃ rs : List R, cs = [.slice A l c] ∧ rs.length = l ∧ Rd W W.heap.size A (rs.flatMap cells) ∧ (∀ r ∈ rs, OK r) ∧ l ≤ c ∧ c * bytes ≤ 140737488351232 := by
  rcases Go.Deep.open_slice ht h with ⟨rfl, _⟩ | ⟨a, len, cap, m, n, D, Pl, rfl, hb, hl, hm, hmm, rfl, hx⟩
  · exact ⟨none, 0, 0, [], rfl, rfl, .inl rfl, fun r hr => by simp at hr, Nat.le_refl _, by omega⟩
  simp only [if_true] at hmm
  subst hmm
  rw [hsz] at hx
  obtain ⟨w1, w2, w3⟩ := Light.slice ht hw
  simp only [List.length_map, List.length_range] at w1
  rw [show len + (m - len) = m by omega, hby] at w1
  have hlight : ∀ i, i < m → Light P e (D i) := fun i hi => by
    rcases Nat.lt_or_ge i len with h | h
    · exact w2 _ (List.mem_map.2 ⟨i, List.mem_range.2 h, rfl⟩)
    · refine w3 _ (List.mem_map.2 ⟨i - len, List.mem_range.2 (by omega), ?_⟩)
      show D (len + (i - len)) = D i
      rw [show len + (i - len) = i by omega]
  obtain ⟨r, hr⟩ := Go.Deep.choose_lt (α := R) (p := fun i r => W.cells? 0 (a.add (i * size)) size = some (cells r) ∧ OK r) (fun i hi => by
    obtain ⟨cs', h1, h2⟩ := hx i hi
    obtain ⟨r, rfl, hok⟩ := he _ _ _ h2 (hlight i hi)
    exact ⟨r, h1, hok⟩)
  have key : ∀ k, k ≤ m → (((List.range k).map r).flatMap cells).length = k * size ∧ ∀ j u, (((List.range k).map r).flatMap cells)[j]? = some u → W.cell? (a.add j) = some u := by
    intro k
    induction k with
    | zero => intro _; exact ⟨by simp, fun j u hu => by simp at hu⟩
    | succ k ih =>
      intro hk
      obtain ⟨i1, i2⟩ := ih (by omega)
      obtain ⟨h1, _⟩ := hr k (by omega)
      obtain ⟨_, hlen, hcell⟩ := World.cells?_some h1
      rw [List.range_succ, List.map_append, List.flatMap_append]
      simp only [List.map_cons, List.map_nil, List.flatMap_cons, List.flatMap_nil, List.append_nil]
      refine ⟨by rw [List.length_append, i1, hlen]; rw [Nat.succ_mul], reads_append i2 fun j u hu => ?_⟩
      rw [i1]
      have hj : j < size := by rw [← hlen]; exact (List.getElem?_eq_some_iff.1 hu).1
      rw [hcell j hj]
      exact hu
  refine ⟨some a, len, m, (List.range len).map r, rfl, by simp, ?_, ?_, hl, w1⟩
  · rcases Nat.eq_zero_or_pos len with rfl | h0
    · exact .inl (by simp)
    · refine .inr ⟨a, rfl, ?_, (key len hl).2⟩
      have hne : 0 < (((List.range len).map r).flatMap cells).length := by rw [(key len hl).1]; exact Nat.mul_pos h0 hpos
      have := World.block_lt_of_cell? W _ ((key len hl).2 0 _ (List.getElem?_eq_getElem hne))
      rwa [add_block] at this
  · intro q hq
    obtain ⟨i, hi, rfl⟩ := List.mem_map.1 hq
    exact (hr i (by have := List.mem_range.1 hi; omega)).2

theorem flat_bytes : ∀ bs : List UInt8, bs.flatMap (fun b => [bv b]) = bvs bs
  | [] => rfl
  | b :: r => congrArg (bv b :: ·) (flat_bytes r)

/-- bytes, by their cells -/
theorem open_bytes_cells {fuel : Nat} {cs : List Value} {t e : TypeId} {x : DataW H × List MemPlace} (ht : P.underlying t = some (.slice e)) (he : P.underlying e = some (.int .u8)) (hc : P.cellsOf e = 1) (hby : P.bytesOf e = 1)
    (h : DataW.trod enc P W 0 (fun _ => true) true fuel t cs = some x) (hw : Light P t x.1) :
    ∃ A l c bs, cs = [.slice A l c] ∧ Sl W W.heap.size A l c bs ∧ c ≤ 140737488351232 := by
  obtain ⟨A, l, c, bs, rfl, hl, hr, _, hlc, hm⟩ := open_rows (R := UInt8) (cells := fun b => [bv b]) (OK := fun _ => True) ht hc hby (by omega) (fun n cs' x' h' _ => by
    obtain ⟨n, rfl, _, hw⟩ := DataW.trod_int he h'
    have hw2 : 0 ≤ n ∧ n ≤ 255 := by simpa [Lit.wf, IntKind.min, IntKind.max, IntKind.signed, IntKind.bits] using hw
    refine ⟨UInt8.ofNat n.toNat, ?_, trivial⟩
    simp only [bv, UInt8.toNat_ofNat']
    congr 2
    omega) h hw
  rw [flat_bytes] at hr
  exact ⟨A, l, c, bs, rfl, ⟨hr, hl, hlc⟩, by omega⟩

/-- an argument that is a slice of bytes -/
theorem open_bytes_w {r : Reach} {b0 : Nat} {t e : TypeId} {v : Value} {d : DataW H} {ps : List MemPlace} (ht : P.underlying t = some (.slice e)) (he : P.underlying e = some (.int .u8)) (hc : P.cellsOf e = 1) (hby : P.bytesOf e = 1)
    (hval : Value.okWide P W r b0 t v) (h : DataW.Trod enc P W 0 (fun _ => true) true t v d ps) (hw : Light P t d) :
    ∃ A l c bs, v = .slice A l c ∧ Sl W W.heap.size A l c bs ∧ c ≤ 140737488351232 := by
  obtain ⟨a, l, c, rfl⟩ := okWide_slice ht hval
  obtain ⟨fuel, hf⟩ := h
  obtain ⟨A, l', c', bs, hcs, hs, hm⟩ := open_bytes_cells ht he hc hby hf hw
  have hcs' : [Value.slice a l c] = [Value.slice A l' c'] := hcs
  simp only [List.cons.injEq, and_true] at hcs'
  exact ⟨A, l', c', bs, hcs', hs, hm⟩

/-- an argument that is a slice of whole numbers -/
theorem flat_ints : ∀ zs : List Int, zs.flatMap (fun z => [Value.int .i64 z]) = zs.map (Value.int .i64)
  | [] => rfl
  | z :: r => congrArg (Value.int .i64 z :: ·) (flat_ints r)
theorem open_ints_w {r : Reach} {b0 : Nat} {t e : TypeId} {v : Value} {d : DataW H} {ps : List MemPlace} (ht : P.underlying t = some (.slice e)) (he : P.underlying e = some (.int .i64)) (hc : P.cellsOf e = 1) (hby : P.bytesOf e = 8)
    (hval : Value.okWide P W r b0 t v) (h : DataW.Trod enc P W 0 (fun _ => true) true t v d ps) (hw : Light P t d) :
    ∃ A l c, ∃ zs : List Int, v = .slice A l c ∧ zs.length = l ∧ Rd W W.heap.size A (zs.map (Value.int .i64)) ∧ (∀ z ∈ zs, -9223372036854775808 ≤ z ∧ z ≤ 9223372036854775807) ∧ l ≤ c ∧ c * 8 ≤ 140737488351232 := by
  obtain ⟨a, l, c, rfl⟩ := okWide_slice ht hval
  obtain ⟨fuel, hf⟩ := h
  obtain ⟨A, l', c', zs, hcs, hl, hr, hok, hlc, hm⟩ := open_rows (R := Int) (cells := fun z => [Value.int .i64 z]) (OK := fun z => -9223372036854775808 ≤ z ∧ z ≤ 9223372036854775807) ht hc hby (by omega) (fun n cs' x' h' _ => by
    obtain ⟨n, rfl, _, hw⟩ := DataW.trod_int he h'
    exact ⟨n, rfl, wf64 hw⟩) hf hw
  have hcs' : [Value.slice a l c] = [Value.slice A l' c'] := hcs
  simp only [List.cons.injEq, and_true] at hcs'
  rw [flat_ints] at hr
  exact ⟨A, l', c', zs, hcs', hl, hr, hok, hlc, hm⟩
end
end

/- Arguments that are tokens, and rows of tokens, opened; a row's world: what the library's variables hold; the closing rule for rows that list variables and lean on the world's shape. -/
section
open Go.RowKit Go.ChangeShapes Go.WideShapes Go.ChangeAt
set_option maxRecDepth 100000

section
variable {H : Type} {enc : TypeId × Value → H} {W : World}
theorem open_tok_cells {fuel : Nat} {cs : List Value} {x : DataW H × List MemPlace} (h : DataW.trod enc Tryz.prog W 0 (fun _ => true) true fuel 35 cs = some x) (hw : Light Tryz.prog 35 x.1) :
    ∃ t : Tk, cs = t.cells ∧ t.t.size ≤ 140737488351232 := by
  obtain ⟨xs, n, _, rfl, hl, hlen, hf⟩ := DataW.trod_struct Tryz.underlying35 h
  have h2 : Tryz.prog.cellsOf 35 = 2 := by kernel_rfl
  rw [h2] at hl
  match cs, hl with
  | [v0, v1], _ =>
    simp only [Array.size] at hlen
    match xs, hlen with
    | [y0, y1], _ =>
      have c1 : Tryz.prog.cellsOf 3 = 1 := by kernel_rfl
      have c2 : Tryz.prog.cellsOf 9 = 1 := by kernel_rfl
      have e0 : DataW.trod enc Tryz.prog W 0 (fun _ => true) true n 3 (([v0, v1].drop 0).take (Tryz.prog.cellsOf 3)) = some y0 := hf 0 _ rfl
      have e1 : DataW.trod enc Tryz.prog W 0 (fun _ => true) true n 9 (([v0, v1].drop 1).take (Tryz.prog.cellsOf 9)) = some y1 := hf 1 _ rfl
      have hw1 : Light Tryz.prog 9 y1.1 := hw.field (j := 1) Tryz.underlying35 rfl rfl
      rw [c1] at e0
      rw [c2] at e1
      obtain ⟨k, hk, _, _⟩ := DataW.trod_int (k := .i64) Tryz.underlying3 (show DataW.trod enc Tryz.prog W 0 (fun _ => true) true n 3 [v0] = some y0 from e0)
      obtain ⟨s, hs, hy, _⟩ := DataW.trod_string Tryz.underlying9 (show DataW.trod enc Tryz.prog W 0 (fun _ => true) true n 9 [v1] = some y1 from e1)
      subst hy
      have hb := hw1.string
      simp only [List.cons.injEq, and_true] at hk hs
      subst hk hs
      exact ⟨⟨k, s⟩, rfl, by rw [text_len] at hb; exact hb⟩

theorem open_tok {r : Reach} {b0 : Nat} {v : Value} {d : DataW H} {ps : List MemPlace} (hval : Value.okWide Tryz.prog W r b0 35 v) (h : DataW.Trod enc Tryz.prog W 0 (fun _ => true) true 35 v d ps) (hw : Light Tryz.prog 35 d) :
    ∃ t : Tk, v = tokV t.k t.t ∧ t.t.size ≤ 140737488351232 := by
  obtain ⟨cs, rfl, hsz⟩ := okWide_struct Tryz.underlying35 hval
  obtain ⟨fuel, hf⟩ := h
  obtain ⟨t, hq, hs⟩ := open_tok_cells hf hw
  refine ⟨t, ?_, hs⟩
  have : cs = t.cells.toArray := by
    have h2 : cs.toList = t.cells := hq
    rw [← h2]
  rw [this]
  rfl

theorem open_toks {r : Reach} {b0 : Nat} {v : Value} {d : DataW H} {ps : List MemPlace} (hval : Value.okWide Tryz.prog W r b0 34 v) (h : DataW.Trod enc Tryz.prog W 0 (fun _ => true) true 34 v d ps) (hw : Light Tryz.prog 34 d) :
    ∃ A l c ts, v = .slice A l c ∧ TR W A l ts ∧ (∀ t ∈ ts, t.t.size ≤ 140737488351232) ∧ l ≤ c ∧ c * 24 ≤ 140737488351232 := by
  obtain ⟨a, l, c, rfl⟩ := okWide_slice Tryz.underlying34 hval
  obtain ⟨fuel, hf⟩ := h
  obtain ⟨A, l', c', ts, hcs, hl, hr, hok, hlc, hm⟩ := open_rows (R := Tk) (cells := Tk.cells) (size := 2) (OK := fun t => t.t.size ≤ 140737488351232) Tryz.underlying34 (by kernel_rfl) (by kernel_rfl) (by omega)
    (fun n cs' x' h' hw' => open_tok_cells h' hw') hf hw
  have hcs' : [Value.slice a l c] = [Value.slice A l' c'] := hcs
  simp only [List.cons.injEq, Value.slice.injEq, and_true] at hcs'
  obtain ⟨rfl, rfl, rfl⟩ := hcs'
  exact ⟨a, l, c, ts, rfl, ⟨hl, hr⟩, hok, hlc, hm⟩
end

theorem lw_of_shaped {W : World} (h : W.ShapedOpen Tryz.prog) : Lw W :=
  Go.Proofs.cell_of_shapedOpen_int (zero := #[.int .i64 0]) (t := 3) h (of_decide_eq_true (by kernel_rfl)) (by kernel_rfl) rfl (by kernel_rfl) (by kernel_rfl) Tryz.underlying3

/-- as the library's closing rule for rows with a condition on the world, the world's shape handed on -/
theorem returns_shaped_and {H : Type} {enc : TypeId × Value → H} {a : Assume} {C : Checked} {os : Os} {f : FuncId} {fn : Func} {s : ChangeSpec} {conds : List PathCond} {apart fresh handsOn again : Bool} {X : World → Array Value → Prop}
    (hX : ∀ (w w' : World) (args : Array Value), w.heap = w'.heap → X w args → X w' args)
    (own : ownKnob C.prog.godebug = none) (started : os.Started) (noInit : C.prog.inits.idxOf? f = none) (hfn : C.prog.funcs[f]? = some fn)
    (witness : ∃ (w : World) (tape : Tape) (i : Input), w.os = os ∧ (w.forCall tape i).Shaped C.prog ∧ i.vars = [] ∧ Input.okWide C.prog (w.forCall tape i) .any w.heap.size f i ∧
      ((s.pre enc C.prog fn conds apart (w.forCall tape i).memory i.args ∧ X (w.forCall tape i).memory i.args) ∧ sizedMet enc C.prog fn (OpenSpec.ofChange s) apart (w.forCall tape i).memory i.args) ∧ a.holds C.prog (lone (Frame.enter C.prog f i.args .normal) [] (w.forCall tape i)))
    (contract : ∀ (W : World) (base : Nat) (args : Array Value) (ds gs : List (DataW H)) (before : List MemPlace),
      (∀ (j : Nat) t v, fn.params[j]? = some t → args[j]? = some v → Value.okWide C.prog W .any base t v) →
      DataW.Whole enc C.prog fn.params.toList s.vars apart W args.toList ds gs before →
      (DataW.weightsEach C.prog (fn.params.toList ++ s.plain.varTypes C.prog) (ds ++ gs)).all (· ≤ reachBytes) = true → X W args → W.ShapedOpen C.prog →
      Calls C.prog f args W fun e W' => ∃ v, e = .returned v ∧ s.post enc C.prog fn apart fresh handsOn again W args v W') :
    ReturnsInHanded a C os f .any (fun w args => (s.pre enc C.prog fn conds apart w args ∧ X w args) ∧ sizedMet enc C.prog fn (OpenSpec.ofChange s) apart w args) (s.post enc C.prog fn apart fresh handsOn again) := by
  refine returnsInHanded_of_calls own started noInit witness ?_
  intro w tape i _ hsh _ hok hpre _
  obtain ⟨_, _, _, fn', hfn', _, _, _, _, hval⟩ := hok
  have e : fn' = fn := Option.some.inj (hfn'.symm.trans hfn)
  subst e
  obtain ⟨⟨⟨ds, gs, before, hw, _⟩, hx⟩, hz⟩ := hpre
  have hw' := DataW.Whole.of_heap (w' := w.forCall tape i) (by rfl) hw
  refine (contract (w.forCall tape i) w.heap.size i.args ds gs before hval hw' (hz.weights hw) (hX _ _ _ (by rfl) hx) hsh).mono fun e W' ⟨v, he, hp⟩ => ?_
  subst he
  exact ChangeSpec.post_blind hp
end
end Go.Proofs.YtedfclknpebpaaaGreatDoor
