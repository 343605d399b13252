/- The contract of the reference's Paint: the bytes that make one grid of another one. Conditions: both grids' cells lie in memory; the second one is proper. -/
import Derived.Test.YtnbpkabnaipimaaDoorRefProper
import Derived.Test.YtnbpkabnaipimaaDoorRow
namespace Go.Proofs.YtnbpkabnaipimaaDoor
open Go Go.RowKit

/-- A row of a grid's cells. -/
def rowAt (cols : Nat) (l : List Cl) (r : Nat) : List Cl := (l.drop (r * cols)).take cols
/-- The bytes of one row, where it is written. -/
def rowP (same : Bool) (cols : Nat) (f t : List Cl) (r : Nat) : List Int := if same = true ∧ rowAt cols f r = rowAt cols t r then [] else headB r ++ rowB none (rowAt cols t r)
def rowsP (same : Bool) (cols : Nat) (f t : List Cl) (n : Nat) : List Int := (List.range n).flatMap (rowP same cols f t)
def paintP (same : Bool) (rows cols : Nat) (f t : List Cl) : List Int := (if same = true then [] else clearB) ++ rowsP same cols f t rows
theorem rowsP_succ (same : Bool) (cols : Nat) (f t : List Cl) (n : Nat) : rowsP same cols f t (n + 1) = rowsP same cols f t n ++ rowP same cols f t n := by
  unfold rowsP
  rw [List.range_succ, List.flatMap_append]
  simp
theorem rowAt_len {rows cols : Nat} {l : List Cl} {r : Nat} (h : r < rows) (hl : l.length = rows * cols) : (rowAt cols l r).length = cols := row_len h hl
theorem rowP_le (same : Bool) (cols : Nat) (f t : List Cl) (r : Nat) : (rowP same cols f t r).length ≤ 7 + 14 * cols := by
  unfold rowP
  split
  · simp
  · have h1 := rowB_le none (rowAt cols t r)
    have h2 : (rowAt cols t r).length ≤ cols := List.length_take_le _ _
    have h3 := digits_le ((r : Int) + 1)
    simp only [List.length_append, headB, List.length_cons, List.length_nil]
    omega
theorem rowsP_le (same : Bool) (cols : Nat) (f t : List Cl) (n : Nat) (hc : cols ≤ 60) : (rowsP same cols f t n).length ≤ n * 847 := by
  induction n with
  | zero => simp [rowsP]
  | succ n ih =>
    have := rowP_le same cols f t n
    rw [rowsP_succ, List.length_append]
    omega
/-- Rows are the same as far as their cells are. -/
def upto (f t : List Cl) (q k : Nat) : Bool := decide ((f.drop q).take k = (t.drop q).take k)
theorem upto_zero (f t : List Cl) (q : Nat) : upto f t q 0 = true := by simp [upto]
theorem upto_succ {f t : List Cl} {q k : Nat} {x y : Cl} (hx : f[q + k]? = some x) (hy : t[q + k]? = some y) : upto f t q (k + 1) = (upto f t q k && decide (x = y)) := by
  have h1 : (f.drop q).take (k + 1) = (f.drop q).take k ++ [x] := by rw [List.take_add_one, List.getElem?_drop, hx]; rfl
  have h2 : (t.drop q).take (k + 1) = (t.drop q).take k ++ [y] := by rw [List.take_add_one, List.getElem?_drop, hy]; rfl
  have hl : ((f.drop q).take k).length = ((t.drop q).take k).length := by
    have a := (List.getElem?_eq_some_iff.1 hx).1
    have b := (List.getElem?_eq_some_iff.1 hy).1
    rw [List.length_take, List.length_take, List.length_drop, List.length_drop]
    omega
  unfold upto
  rw [h1, h2, Bool.eq_iff_iff]
  simp only [decide_eq_true_eq, Bool.and_eq_true]
  constructor
  · intro h
    have := List.append_inj h hl
    exact ⟨this.1, by simpa using this.2⟩
  · rintro ⟨h, rfl⟩
    rw [h]

/-- What is painted so far. -/
def outB (same : Bool) (cols : Nat) (f t : List Cl) (n : Nat) : List Value := byV ((if same = true then [] else clearB) ++ rowsP same cols f t n)

theorem upto_end {f t : List Cl} {q j k : Nat} (h : upto f t q j = false) (hj : j ≤ k) : upto f t q k = false := by
  unfold upto at *
  simp only [decide_eq_false_iff_not] at *
  intro e
  apply h
  have := congrArg (List.take j) e
  simpa [List.take_take, Nat.min_eq_left hj] using this
theorem upto_row (f t : List Cl) (cols r : Nat) : upto f t (r * cols) cols = decide (rowAt cols f r = rowAt cols t r) := rfl
theorem outB_same {same : Bool} {cols : Nat} {f t : List Cl} {k : Nat} (h : (same && upto f t (k * cols) cols) = true) : outB same cols f t (k + 1) = outB same cols f t k := by
  simp only [Bool.and_eq_true] at h
  unfold outB
  rw [rowsP_succ]
  have : rowP same cols f t k = [] := by
    unfold rowP
    rw [upto_row] at h
    rw [if_pos ⟨h.1, by simpa using h.2⟩]
  rw [this, List.append_nil]
theorem outB_new {same : Bool} {cols : Nat} {f t : List Cl} {k : Nat} (h : (same && upto f t (k * cols) cols) = false) : outB same cols f t k ++ byV (headB k ++ rowB none (rowAt cols t k)) = outB same cols f t (k + 1) := by
  unfold outB
  rw [rowsP_succ]
  have : rowP same cols f t k = headB k ++ rowB none (rowAt cols t k) := by
    unfold rowP
    rw [if_neg]
    rintro ⟨h1, h2⟩
    rw [upto_row, h1, h2] at h
    simp at h
  rw [this]
  simp only [byV_append, List.append_assoc]
theorem outB_le (same : Bool) (cols : Nat) (f t : List Cl) (n : Nat) (hc : cols ≤ 60) : (outB same cols f t n).length ≤ 4 + n * 847 := by
  have := rowsP_le same cols f t n hc
  unfold outB
  rw [byV_len, List.length_append]
  split
  · simp; omega
  · simp [clearB]; omega
theorem row_cells {w : World} {b off cols r : Nat} {t : List Cl} (h : ∀ j u, (flat t)[j]? = some u → w.cell? ⟨b, off + j, none⟩ = some u) : ∀ j u, (flat (rowAt cols t r))[j]? = some u → w.cell? ⟨b, (off + r * cols * 2) + j, none⟩ = some u := by
  intro j u hj
  unfold rowAt at hj
  rw [flat_take, flat_drop, List.getElem?_take] at hj
  split at hj
  · rw [List.getElem?_drop] at hj
    have := h _ _ hj
    rw [Nat.add_assoc]
    exact this
  · cases hj
theorem mem_rowAt {cols r : Nat} {t : List Cl} {c : Cl} (h : c ∈ rowAt cols t r) : c ∈ t := List.mem_of_mem_drop (List.mem_of_mem_take h)

end Go.Proofs.YtnbpkabnaipimaaDoor
