/- Ahead of stage 23: what is proper cell by cell is whole row by row; a screen that was cleared, and painted from anew. No program, no walk. -/
import Derived.Test.YtnbpkabnaipimaaDoorPaint
import Derived.Lib.Hide
namespace Go.Proofs.YtnbpkabnaipimaaDoor

section
variable (W : Int → Int) (Ok : Int → Bool)

/-- What is asked of each cell. -/
def CellOk (cols : Nat) (l : List Cl) (i : Nat) : Prop :=
  ∃ c, l[i]? = some c ∧ 0 ≤ c.s ∧ c.s ≤ 7 ∧
    (c.r = 0 → i % cols ≠ 0 ∧ ∃ p, l[i - 1]? = some p ∧ p.r ≠ 0 ∧ W p.r = 2 ∧ p.s = c.s) ∧
    (c.r ≠ 0 → Ok c.r = true ∧ (W c.r = 2 → i % cols ≠ cols - 1 ∧ ∃ q, l[i + 1]? = some q ∧ q.r = 0))

/-- The rows of a grid's cells. -/
def rowsOf (rows cols : Nat) (l : List Cl) : List (List Cl) := (List.range rows).map fun r => (l.drop (r * cols)).take cols

theorem rowsOf_len (rows cols : Nat) (l : List Cl) : (rowsOf rows cols l).length = rows := by simp [rowsOf]
theorem rowsOf_get {rows cols : Nat} {l : List Cl} {r : Nat} (h : r < rows) : (rowsOf rows cols l)[r]? = some ((l.drop (r * cols)).take cols) := by
  simp [rowsOf, h]
theorem row_len {rows cols : Nat} {l : List Cl} {r : Nat} (h : r < rows) (hl : l.length = rows * cols) : ((l.drop (r * cols)).take cols).length = cols := by
  have h1 : (r + 1) * cols ≤ rows * cols := Nat.mul_le_mul_right _ h
  rw [Nat.succ_mul] at h1
  rw [List.length_take, List.length_drop]
  omega
theorem rowsOf_all {rows cols : Nat} {l : List Cl} {x : List Cl} (h : x ∈ rowsOf rows cols l) : ∃ r, r < rows ∧ x = (l.drop (r * cols)).take cols := by
  simp only [rowsOf, List.mem_map, List.mem_range] at h
  obtain ⟨r, h, rfl⟩ := h
  exact ⟨r, h, rfl⟩
theorem rowsOf_flat (rows cols : Nat) : ∀ (l : List Cl), l.length = rows * cols → (rowsOf rows cols l).flatten = l := by
  induction rows with
  | zero =>
    intro l h
    rw [Nat.zero_mul] at h
    rw [List.eq_nil_of_length_eq_zero h]
    rfl
  | succ n ih =>
    intro l h
    rw [Nat.succ_mul] at h
    have e : rowsOf (n + 1) cols l = l.take cols :: rowsOf n cols (l.drop cols) := by
      unfold rowsOf
      rw [List.range_succ_eq_map, List.map_cons, List.map_map]
      simp only [Nat.zero_mul, List.drop_zero, List.cons.injEq, true_and]
      apply List.map_congr_left
      intro r _
      simp only [Function.comp, List.drop_drop]
      rw [Nat.succ_mul, Nat.add_comm]
    rw [e, List.flatten_cons, ih _ (by rw [List.length_drop]; omega), List.take_append_drop]

variable (h2 : ∀ x, Ok x = true → W x = 1 ∨ W x = 2)
include h2

theorem row_ok {rows cols : Nat} {l : List Cl} (hl : l.length = rows * cols) (hc : ∀ i, i < l.length → CellOk W Ok cols l i) {r : Nat} (hr : r < rows) :
    ∀ n j, n = cols - j → j ≤ cols → (∀ c, j < cols → l[r * cols + j]? = some c → c.r ≠ 0) → RowOk W Ok ((l.drop (r * cols + j)).take (cols - j)) := by
  have hle : (r + 1) * cols ≤ rows * cols := Nat.mul_le_mul_right _ hr
  rw [Nat.succ_mul] at hle
  have hmod : ∀ j, j < cols → (r * cols + j) % cols = j := fun j hj => by rw [Nat.mul_comm, Nat.mul_add_mod, Nat.mod_eq_of_lt hj]
  intro n
  induction n using Nat.strongRecOn with
  | _ n ih =>
    intro j hn hj hfree
    by_cases hj' : j = cols
    · rw [hj', Nat.sub_self, List.take_zero]
      exact .nil
    have hlt : j < cols := by omega
    obtain ⟨c, hg, hs0, hs7, hz, hn0⟩ := hc (r * cols + j) (by omega)
    have hne := hfree c hlt hg
    obtain ⟨hok, hwide⟩ := hn0 hne
    have HW := Lib.hid hwide
    clear hz hn0 hwide
    have hd : l.drop (r * cols + j) = c :: l.drop (r * cols + (j + 1)) := by
      obtain ⟨hi, he⟩ := List.getElem?_eq_some_iff.1 hg
      rw [List.drop_eq_getElem_cons hi, he]
      rfl
    have e1 : (l.drop (r * cols + j)).take (cols - j) = c :: (l.drop (r * cols + (j + 1))).take (cols - (j + 1)) := by
      rw [hd, show cols - j = (cols - (j + 1)) + 1 by omega, List.take_succ_cons]
    rcases h2 _ hok with hw | hw
    · rw [e1]
      refine .one c _ hok hw hs0 hs7 (ih (cols - (j + 1)) (by omega) (j + 1) rfl (by omega) fun q hq hgq h0 => ?_)
      obtain ⟨q', hg', -, -, hz', -⟩ := hc (r * cols + (j + 1)) (by omega)
      have HZ := Lib.hid hz'
      clear hz'
      rw [hgq] at hg'
      cases hg'
      obtain ⟨_, p, hp, _, hwp, _⟩ := HZ.out h0
      rw [show r * cols + (j + 1) - 1 = r * cols + j by omega, hg] at hp
      cases hp
      omega
    · obtain ⟨hm, q, hq, hq0⟩ := HW.out hw
      rw [hmod j hlt] at hm
      have hj1 : j + 1 < cols := by omega
      obtain ⟨q', hg', -, -, hz', -⟩ := hc (r * cols + (j + 1)) (by omega)
      have HZ := Lib.hid hz'
      clear hz'
      rw [show r * cols + j + 1 = r * cols + (j + 1) by omega] at hq
      rw [hq] at hg'
      cases hg'
      obtain ⟨_, p, hp, _, _, hps⟩ := HZ.out hq0
      rw [show r * cols + (j + 1) - 1 = r * cols + j by omega, hg] at hp
      cases hp
      have hqe : q = ⟨0, c.s⟩ := by cases q; simp_all
      have hd2 : l.drop (r * cols + (j + 1)) = q :: l.drop (r * cols + (j + 2)) := by
        obtain ⟨hi, he⟩ := List.getElem?_eq_some_iff.1 hq
        rw [List.drop_eq_getElem_cons hi, he]
        rfl
      have e2 : (l.drop (r * cols + (j + 1))).take (cols - (j + 1)) = q :: (l.drop (r * cols + (j + 2))).take (cols - (j + 2)) := by
        rw [hd2, show cols - (j + 1) = (cols - (j + 2)) + 1 by omega, List.take_succ_cons]
      rw [e1, e2, hqe]
      refine .two c _ hok hw hs0 hs7 (ih (cols - (j + 2)) (by omega) (j + 2) rfl (by omega) fun y hy hgy h0 => ?_)
      obtain ⟨y', hg', -, -, hz', -⟩ := hc (r * cols + (j + 2)) (by omega)
      have HZ := Lib.hid hz'
      clear hz'
      rw [hgy] at hg'
      cases hg'
      obtain ⟨_, p, hp, hp0, _, _⟩ := HZ.out h0
      rw [show r * cols + (j + 2) - 1 = r * cols + (j + 1) by omega, hq] at hp
      cases hp
      exact hp0 hq0

/-- What is proper cell by cell is whole row by row. -/
theorem rows_ok {rows cols : Nat} {l : List Cl} (hl : l.length = rows * cols) (h1 : 0 < cols) (hc : ∀ i, i < l.length → CellOk W Ok cols l i) : ∀ x ∈ rowsOf rows cols l, RowOk W Ok x := by
  intro x hx
  obtain ⟨r, hr, rfl⟩ := rowsOf_all hx
  have hle : (r + 1) * cols ≤ rows * cols := Nat.mul_le_mul_right _ hr
  rw [Nat.succ_mul] at hle
  refine row_ok W Ok h2 hl hc hr cols 0 rfl (Nat.zero_le _) fun c _ hg h0 => ?_
  obtain ⟨c', hg', -, -, hz, -⟩ := hc (r * cols + 0) (by omega)
  rw [hg] at hg'
  cases hg'
  have := (hz h0).1
  rw [Nat.add_zero, Nat.mul_mod_left] at this
  exact this rfl
end

section
variable (W : Int → Int) (Ok : Int → Bool) (h0 : Ok 0 = false) (hb : Ok 32 = true ∧ W 32 = 1)
include h0 hb

omit h0 in
theorem RowOk.blanks (n : Nat) : RowOk W Ok (List.replicate n YtnbpkabnaipimaaDoor.blank) := by
  induction n with
  | zero => exact .nil
  | succ n ih => exact RowOk.blank W Ok hb ih

/-- All rows, one behind the other. -/
def allToks : Nat → List (List Cl) → List Tok
  | k, t :: ts => (Tok.goto k :: rowToks none t) ++ allToks (k + 1) ts
  | _, [] => []

theorem all_painted : ∀ (fs ts : List (List Cl)) (p : List (List Cl)) (a : Scr), fs.length = ts.length → (∀ l ∈ fs, RowOk W Ok l) → (∀ l ∈ ts, RowOk W Ok l) → (∀ (i : Nat) f t, fs[i]? = some f → ts[i]? = some t → f.length = t.length) → a.g = p ++ fs →
    ∃ b, DoesAll W Ok a (allToks p.length ts) b ∧ b.g = p ++ ts := by
  intro fs
  induction fs with
  | nil =>
    intro ts p a hl _ _ _ hg
    have : ts = [] := List.eq_nil_of_length_eq_zero hl.symm
    subst this
    exact ⟨a, .nil a, hg⟩
  | cons f fs ih =>
    intro ts p a hl hf ht hlen hg
    cases ts with
    | nil => simp at hl
    | cons t ts =>
      have hrow : a.g[p.length]? = some f := by rw [hg]; simp
      have hD : Does W Ok a (.goto p.length) ⟨a.g, p.length, 0, a.st⟩ := .goto a _ (List.getElem?_eq_some_iff.1 hrow).1
      obtain ⟨a', hB', hbg, _⟩ := row_painted W Ok h0 hb t (ht t (by simp)) ⟨a.g, p.length, 0, a.st⟩ none [] f hrow rfl (hf f (by simp)) (hlen 0 f t rfl rfl) (fun s e => by cases e)
      have hg' : a'.g = p ++ t :: fs := by rw [hbg, hg]; simp
      obtain ⟨b, hB, hbg⟩ := ih ts (p ++ [t]) a' (by simpa using hl) (fun l hm => hf l (by simp [hm])) (fun l hm => ht l (by simp [hm])) (fun i x y hx hy => hlen (i + 1) x y hx hy) (by rw [hg']; simp)
      refine ⟨b, ?_, by rw [hbg]; simp⟩
      rw [allToks]
      refine (DoesAll.cons hD hB').append W Ok ?_
      simpa using hB

/-- A screen of the same size that is cleared, and painted anew, whatever it showed. -/
theorem anew_painted (ts : List (List Cl)) (a : Scr) (hl : a.g.length = ts.length) (ht : ∀ l ∈ ts, RowOk W Ok l) (hlen : ∀ (i : Nat) f t, a.g[i]? = some f → ts[i]? = some t → f.length = t.length) :
    ∃ b, DoesAll W Ok a (Tok.clear :: allToks 0 ts) b ∧ b.g = ts := by
  have hD : Does W Ok a .clear ⟨clearG a.g, a.row, a.col, a.st⟩ := .clear a
  obtain ⟨b, hB, hbg⟩ := all_painted W Ok h0 hb (clearG a.g) ts [] ⟨clearG a.g, a.row, a.col, a.st⟩ (by simp [clearG, hl]) (fun l hm => by
    simp only [clearG, List.mem_map] at hm
    obtain ⟨x, _, rfl⟩ := hm
    rw [List.map_const']
    exact RowOk.blanks W Ok hb _) ht (fun i f t hf ht' => by
    simp only [clearG, List.getElem?_map] at hf
    obtain ⟨x, hx, rfl⟩ := Option.map_eq_some_iff.1 hf
    rw [List.length_map]
    exact hlen i x t hx ht') rfl
  exact ⟨b, .cons hD hB, by simpa using hbg⟩
end
end Go.Proofs.YtnbpkabnaipimaaDoor
