/- The bytes that are painted are those of tokens: of the rows that differ, or of all of them behind a clearing. No walk. -/
import Derived.Test.YtnbpkabnaipimaaDoorProper
import Derived.Test.YtnbpkabnaipimaaDoorRefPaint
namespace Go.Proofs.YtnbpkabnaipimaaDoor

theorem rowsOf_at {rows cols r : Nat} {l : List Cl} (h : r < rows) : (rowsOf rows cols l)[r]? = some (rowAt cols l r) := rowsOf_get h
theorem gridToks_snoc : ∀ (fs ts : List (List Cl)) (k : Nat) (f t : List Cl), fs.length = ts.length → gridToks k (fs ++ [f]) (ts ++ [t]) = gridToks k fs ts ++ (if f = t then [] else Tok.goto (k + fs.length) :: rowToks none t) := by
  intro fs
  induction fs with
  | nil =>
    intro ts k f t h
    obtain rfl : ts = [] := List.eq_nil_of_length_eq_zero h.symm
    simp [gridToks]
  | cons a fs ih =>
    intro ts k f t h
    cases ts with
    | nil => simp at h
    | cons b ts =>
      rw [List.cons_append, List.cons_append, gridToks, gridToks, ih ts (k + 1) f t (by simpa using h), List.append_assoc, List.length_cons, show k + 1 + fs.length = k + (fs.length + 1) by omega]
theorem allToks_snoc : ∀ (ts : List (List Cl)) (k : Nat) (t : List Cl), allToks k (ts ++ [t]) = allToks k ts ++ (Tok.goto (k + ts.length) :: rowToks none t) := by
  intro ts
  induction ts with
  | nil => intro k t; simp [allToks]
  | cons b ts ih =>
    intro k t
    rw [List.cons_append, allToks, allToks, ih (k + 1) t, List.append_assoc, List.length_cons, show k + 1 + ts.length = k + (ts.length + 1) by omega]
theorem rowsOf_succ (n cols : Nat) (l : List Cl) : rowsOf (n + 1) cols l = rowsOf n cols l ++ [rowAt cols l n] := by
  unfold rowsOf rowAt
  rw [List.range_succ, List.map_append]
  rfl
theorem toks_row (r : Nat) (t : List Cl) : toksB (Tok.goto r :: rowToks none t) = headB r ++ rowB none t := toksB_cons _ _
theorem rows_same (cols : Nat) (f t : List Cl) (n : Nat) : rowsP true cols f t n = toksB (gridToks 0 (rowsOf n cols f) (rowsOf n cols t)) := by
  induction n with
  | zero => rfl
  | succ n ih =>
    rw [rowsP_succ, rowsOf_succ, rowsOf_succ, gridToks_snoc _ _ _ _ _ (by rw [rowsOf_len, rowsOf_len]), toksB_append, ih, rowsOf_len, Nat.zero_add]
    congr 1
    unfold rowP
    by_cases h : rowAt cols f n = rowAt cols t n
    · rw [if_pos ⟨rfl, h⟩, if_pos h]; rfl
    · rw [if_neg (fun x => h x.2), if_neg h, toks_row]
theorem rows_all (cols : Nat) (f t : List Cl) (n : Nat) : rowsP false cols f t n = toksB (allToks 0 (rowsOf n cols t)) := by
  induction n with
  | zero => rfl
  | succ n ih =>
    rw [rowsP_succ, rowsOf_succ, allToks_snoc, toksB_append, ih, rowsOf_len, Nat.zero_add]
    have : rowP false cols f t n = headB n ++ rowB none (rowAt cols t n) := by
      unfold rowP
      rw [if_neg (fun x => Bool.noConfusion x.1)]
    rw [this, toks_row]
/-- What is painted, as tokens. -/
def paintT (same : Bool) (rows cols : Nat) (f t : List Cl) : List Tok := if same = true then gridToks 0 (rowsOf rows cols f) (rowsOf rows cols t) else Tok.clear :: allToks 0 (rowsOf rows cols t)
theorem paint_toks (same : Bool) (rows cols : Nat) (f t : List Cl) : paintP same rows cols f t = toksB (paintT same rows cols f t) := by
  unfold paintP paintT
  cases same
  · rw [if_neg (by decide), if_neg (by decide), rows_all, toksB_cons]; rfl
  · rw [if_pos rfl, if_pos rfl, rows_same, List.nil_append]
/-- The screen that a terminal of a size begins with. -/
def blankG (rows cols : Nat) : List (List Cl) := List.replicate rows (List.replicate cols blank)
end Go.Proofs.YtnbpkabnaipimaaDoor
