/- A grid is proper if and only if each of its rows is: cell by cell, or as whole cells one behind the other. No walk. -/
import Derived.Test.YtnbpkabnaipimaaDoorProper
namespace Go.Proofs.YtnbpkabnaipimaaDoor

section
variable (W : Int → Int) (Ok : Int → Bool)

/-- What is asked of each cell of one row. -/
def RowCell (l : List Cl) (j : Nat) : Prop :=
  ∃ c, l[j]? = some c ∧ 0 ≤ c.s ∧ c.s ≤ 7 ∧
    (c.r = 0 → j ≠ 0 ∧ ∃ p, l[j - 1]? = some p ∧ p.r ≠ 0 ∧ W p.r = 2 ∧ p.s = c.s) ∧
    (c.r ≠ 0 → Ok c.r = true ∧ (W c.r = 2 → ∃ q, l[j + 1]? = some q ∧ q.r = 0))

theorem line_get {cols : Nat} {l : List Cl} (r : Nat) {j : Nat} (hj : j < cols) : ((l.drop (r * cols)).take cols)[j]? = l[r * cols + j]? := by
  rw [List.getElem?_take_of_lt hj, List.getElem?_drop]
theorem line_get_ge {cols : Nat} {l : List Cl} (r : Nat) {j : Nat} (hj : cols ≤ j) : ((l.drop (r * cols)).take cols)[j]? = none := by
  rw [List.getElem?_eq_none]
  exact Nat.le_trans (List.length_take_le _ _) hj
theorem cell_row {cols : Nat} {l : List Cl} (r : Nat) {j : Nat} (hj : j < cols) : CellOk W Ok cols l (r * cols + j) ↔ RowCell W Ok ((l.drop (r * cols)).take cols) j := by
  have hm : (r * cols + j) % cols = j := by rw [Nat.mul_comm, Nat.mul_add_mod, Nat.mod_eq_of_lt hj]
  unfold CellOk RowCell
  rw [line_get r hj, hm]
  constructor
  · rintro ⟨c, h1, h2, h3, h4, h5⟩
    refine ⟨c, h1, h2, h3, fun h0 => ?_, fun h0 => ?_⟩
    · obtain ⟨k, p, hp, hq⟩ := h4 h0
      exact ⟨k, p, by rw [line_get r (by omega), ← hp]; congr 1; omega, hq⟩
    · refine ⟨(h5 h0).1, fun hw => ?_⟩
      obtain ⟨k, q, hq, hr⟩ := (h5 h0).2 hw
      exact ⟨q, by rw [line_get r (by omega), ← hq]; rfl, hr⟩
  · rintro ⟨c, h1, h2, h3, h4, h5⟩
    refine ⟨c, h1, h2, h3, fun h0 => ?_, fun h0 => ?_⟩
    · obtain ⟨k, p, hp, hq⟩ := h4 h0
      rw [line_get r (by omega)] at hp
      exact ⟨k, p, by rw [← hp]; congr 1; omega, hq⟩
    · refine ⟨(h5 h0).1, fun hw => ?_⟩
      obtain ⟨q, hq, hr⟩ := (h5 h0).2 hw
      rcases Nat.lt_or_ge (j + 1) cols with hlt | hge
      · rw [line_get r hlt] at hq
        exact ⟨by omega, q, by rw [← hq]; rfl, hr⟩
      · rw [line_get_ge r hge] at hq
        cases hq
/-- All cells, row by row. -/
theorem cells_rows {rows cols : Nat} {l : List Cl} (hl : l.length = rows * cols) : (∀ i, i < l.length → CellOk W Ok cols l i) ↔ ∀ r, r < rows → ∀ j, j < cols → RowCell W Ok ((l.drop (r * cols)).take cols) j := by
  constructor
  · intro h r hr j hj
    refine (cell_row W Ok r hj).1 (h _ ?_)
    have : (r + 1) * cols ≤ rows * cols := Nat.mul_le_mul_right _ hr
    rw [Nat.succ_mul] at this
    omega
  · intro h i hi
    rw [hl] at hi
    have hc : 0 < cols := by
      rcases Nat.eq_zero_or_pos cols with rfl | h
      · omega
      · exact h
    have hr : i / cols < rows := Nat.div_lt_of_lt_mul (by rw [Nat.mul_comm]; exact hi)
    have := (cell_row W Ok (l := l) (i / cols) (Nat.mod_lt i hc)).2 (h _ hr _ (Nat.mod_lt i hc))
    rwa [Nat.mul_comm, Nat.div_add_mod] at this
/-- One row's cells are the cells of a grid of one row. -/
theorem line_cells (l : List Cl) : (∀ i, i < l.length → CellOk W Ok l.length l i) ↔ ∀ j, j < l.length → RowCell W Ok l j := by
  rw [cells_rows W Ok (rows := 1) (cols := l.length) (l := l) (by omega)]
  constructor
  · intro h j hj
    have := h 0 (by omega) j hj
    simpa using this
  · intro h r hr j hj
    obtain rfl : r = 0 := by omega
    simpa using h j hj
theorem cells_ok (h2 : ∀ x, Ok x = true → W x = 1 ∨ W x = 2) {l : List Cl} (h : ∀ j, j < l.length → RowCell W Ok l j) : RowOk W Ok l := by
  by_cases h0 : l.length = 0
  · rw [List.eq_nil_of_length_eq_zero h0]
    exact .nil
  · have := rows_ok W Ok h2 (rows := 1) (cols := l.length) (l := l) (by omega) (by omega) ((line_cells W Ok l).2 h)
    refine this l ?_
    rw [rowsOf]
    simp
theorem ok_cells (h0 : Ok 0 = false) {l : List Cl} (h : RowOk W Ok l) : ∀ j, j < l.length → RowCell W Ok l j := by
  have hne : ∀ x, Ok x = true → x ≠ 0 := fun x hx e => by rw [e, h0] at hx; cases hx
  induction h with
  | nil => intro j hj; simp at hj
  | one c t h1 h2 h3 h4 h5 ih =>
    intro j hj
    cases j with
    | zero => exact ⟨c, rfl, h3, h4, fun e => absurd e (hne _ h1), fun _ => ⟨h1, fun hw => by omega⟩⟩
    | succ j =>
      obtain ⟨x, k1, k2, k3, k4, k5⟩ := ih j (by simpa using hj)
      refine ⟨x, by simpa using k1, k2, k3, fun e => ?_, fun e => ⟨(k5 e).1, fun hw => ?_⟩⟩
      · obtain ⟨n, p, hp, hq⟩ := k4 e
        refine ⟨by omega, p, ?_, hq⟩
        rw [show j + 1 - 1 = (j - 1) + 1 by omega, List.getElem?_cons_succ]
        exact hp
      · obtain ⟨q, hq, hr⟩ := (k5 e).2 hw
        exact ⟨q, by rw [List.getElem?_cons_succ]; exact hq, hr⟩
  | two c t h1 h2 h3 h4 h5 ih =>
    intro j hj
    match j, hj with
    | 0, _ => exact ⟨c, rfl, h3, h4, fun e => absurd e (hne _ h1), fun _ => ⟨h1, fun _ => ⟨⟨0, c.s⟩, rfl, rfl⟩⟩⟩
    | 1, _ => exact ⟨⟨0, c.s⟩, rfl, h3, h4, fun _ => ⟨by omega, c, rfl, hne _ h1, h2, rfl⟩, fun e => absurd rfl e⟩
    | j + 2, hj =>
      obtain ⟨x, k1, k2, k3, k4, k5⟩ := ih j (by simpa using hj)
      refine ⟨x, by simpa using k1, k2, k3, fun e => ?_, fun e => ⟨(k5 e).1, fun hw => ?_⟩⟩
      · obtain ⟨n, p, hp, hq⟩ := k4 e
        refine ⟨by omega, p, ?_, hq⟩
        rw [show j + 2 - 1 = (j - 1) + 1 + 1 by omega, List.getElem?_cons_succ, List.getElem?_cons_succ]
        exact hp
      · obtain ⟨q, hq, hr⟩ := (k5 e).2 hw
        exact ⟨q, by rw [List.getElem?_cons_succ, List.getElem?_cons_succ]; exact hq, hr⟩
/-- All rows' cells, as whole cells. -/
theorem cells_whole (h0 : Ok 0 = false) (h2 : ∀ x, Ok x = true → W x = 1 ∨ W x = 2) {rows cols : Nat} {l : List Cl} (hl : l.length = rows * cols) : (∀ i, i < l.length → CellOk W Ok cols l i) ↔ ∀ r, r < rows → RowOk W Ok ((l.drop (r * cols)).take cols) := by
  rw [cells_rows W Ok hl]
  constructor
  · intro h r hr
    exact cells_ok W Ok h2 fun j hj => h r hr j (by rwa [row_len hr hl] at hj)
  · intro h r hr j hj
    exact ok_cells W Ok h0 (h r hr) j (by rw [row_len hr hl]; exact hj)
end
end Go.Proofs.YtnbpkabnaipimaaDoor
