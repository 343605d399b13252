/- The bytes of what is painted: numbers, styles, runes, tokens; bytes that are cut anywhere. No walk. -/
import Derived.Test.YtnbpkabnaipimaaDoorPaint
import Derived.Lib.RuneBytes
namespace Go.Proofs.YtnbpkabnaipimaaDoor

/-- The digits of a number of up to two. -/
def digits (n : Int) : List Int := (if 9 < n then [48 + n / 10] else []) ++ [48 + n % 10]
def headB (r : Int) : List Int := [27, 91] ++ digits (r + 1) ++ [59, 49, 72]
def styleB (s : Int) : List Int := [27, 91, 48] ++ (if s % 2 = 1 then [59, 55] else []) ++ (if s / 2 % 2 = 1 then [59, 52] else []) ++ (if s / 4 = 1 then [59, 49] else []) ++ [109]
def clearB : List Int := [27, 91, 50, 74]
def tokB : Tok → List Int
  | .goto r => headB r
  | .style s => styleB s
  | .clear => clearB
  | .rune c => Lib.encodeRuneZ c
def toksB (l : List Tok) : List Int := l.flatMap tokB
theorem toksB_append (l m : List Tok) : toksB (l ++ m) = toksB l ++ toksB m := by simp [toksB]
theorem toksB_cons (t : Tok) (m : List Tok) : toksB (t :: m) = tokB t ++ toksB m := by simp [toksB]

/-- The bytes of a row's cells, behind one of a style. -/
def rowB (last : Option Int) (l : List Cl) : List Int := toksB (rowToks last l)
theorem rowB_nil (last : Option Int) : rowB last [] = [] := rfl
theorem rowB_zero {last : Option Int} {c : Cl} {t : List Cl} (h : c.r = 0) : rowB last (c :: t) = rowB last t := by
  unfold rowB; rw [rowToks, if_pos h]
theorem rowB_same {last : Option Int} {c : Cl} {t : List Cl} (h : c.r ≠ 0) (hs : last = some c.s) : rowB last (c :: t) = Lib.encodeRuneZ c.r ++ rowB (some c.s) t := by
  unfold rowB; rw [rowToks, if_neg h, if_pos hs]; rfl
theorem rowB_new {last : Option Int} {c : Cl} {t : List Cl} (h : c.r ≠ 0) (hs : last ≠ some c.s) : rowB last (c :: t) = styleB c.s ++ Lib.encodeRuneZ c.r ++ rowB (some c.s) t := by
  unfold rowB; rw [rowToks, if_neg h, if_neg hs, List.singleton_append, toksB_cons, toksB_cons, List.append_assoc]; rfl

/-- The style of the last cell that was written. -/
def lastS : Option Int → List Cl → Option Int
  | last, [] => last
  | last, c :: t => lastS (if c.r = 0 then last else some c.s) t
theorem lastS_append (last : Option Int) (l m : List Cl) : lastS last (l ++ m) = lastS (lastS last l) m := by
  induction l generalizing last with
  | nil => rfl
  | cons c t ih => simp only [List.cons_append, lastS]; exact ih _
theorem rowB_append (last : Option Int) (l m : List Cl) : rowB last (l ++ m) = rowB last l ++ rowB (lastS last l) m := by
  induction l generalizing last with
  | nil => rfl
  | cons c t ih =>
    rw [List.cons_append]
    by_cases h : c.r = 0
    · rw [rowB_zero h, rowB_zero h, ih, lastS, if_pos h]
    · by_cases hs : last = some c.s
      · rw [rowB_same h hs, rowB_same h hs, ih, lastS, if_neg h]
        simp only [List.append_assoc]
      · rw [rowB_new h hs, rowB_new h hs, ih, lastS, if_neg h]
        simp only [List.append_assoc]

/-- A beginning of a token's bytes that is not all of them. -/
def Begun (t : Tok) (p : List Int) : Prop := ∃ q, q ≠ [] ∧ p ++ q = tokB t

theorem encode_ne (c : Int) : Lib.encodeRuneZ c ≠ [] := by
  unfold Lib.encodeRuneZ
  repeat' split
  all_goals simp
theorem tokB_ne (t : Tok) : tokB t ≠ [] := by
  cases t with
  | goto r => simp [tokB, headB]
  | style s => simp [tokB, styleB]
  | clear => simp [tokB, clearB]
  | rune c => exact encode_ne c

/-- Bytes of tokens, cut anywhere: whole tokens, and nothing or a beginning of the next one. -/
theorem cut_toks (ts : List Tok) (k : Nat) (hk : k ≤ (toksB ts).length) :
    ∃ us vs p, ts = us ++ vs ∧ (toksB ts).take k = toksB us ++ p ∧ ((p = []) ∨ ∃ t r, vs = t :: r ∧ Begun t p) ∧ p ++ (toksB ts).drop k = toksB vs := by
  induction ts generalizing k with
  | nil =>
    have : k = 0 := by simpa [toksB] using hk
    subst this
    exact ⟨[], [], [], rfl, rfl, .inl rfl, rfl⟩
  | cons t ts ih =>
    rw [toksB_cons] at hk ⊢
    by_cases h : (tokB t).length ≤ k
    · rw [List.length_append] at hk
      obtain ⟨us, vs, p, h1, h2, h3, h4⟩ := ih (k - (tokB t).length) (by omega)
      refine ⟨t :: us, vs, p, by rw [h1]; rfl, ?_, h3, ?_⟩
      · rw [toksB_cons, List.take_append, List.take_of_length_le h, h2, List.append_assoc]
      · rw [List.drop_append, List.drop_of_length_le h, List.nil_append, h4]
    · refine ⟨[], t :: ts, (tokB t).take k, rfl, ?_, .inr ⟨t, ts, rfl, (tokB t).drop k, ?_, List.take_append_drop _ _⟩, ?_⟩
      · rw [List.take_append_of_le_length (by omega)]
        rfl
      · intro e
        have := congrArg List.length e
        rw [List.length_drop, List.length_nil] at this
        omega
      · rw [List.drop_append_of_le_length (by omega), ← List.append_assoc, List.take_append_drop, toksB_cons]
end Go.Proofs.YtnbpkabnaipimaaDoor
