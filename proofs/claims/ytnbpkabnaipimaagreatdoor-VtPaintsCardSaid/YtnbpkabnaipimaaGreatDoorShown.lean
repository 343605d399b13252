/- A grid that is painted is shown: of proper grids, token by token, cut anywhere. No walk. -/
import Derived.Test.YtnbpkabnaipimaaGreatDoorToks
namespace Go.Proofs.YtnbpkabnaipimaaGreatDoor
open Go

/-- What tokens do to a screen, with the widths and the runes of this program. -/
abbrev Runs : Scr → List Tok → Scr → Prop := DoesAll wd okR

theorem runs_split {a b : Scr} {us vs : List Tok} (h : Runs a (us ++ vs) b) : ∃ c, Runs a us c ∧ Runs c vs b := by
  induction us generalizing a with
  | nil => exact ⟨a, .nil a, h⟩
  | cons t us ih =>
    cases h with
    | cons h1 h2 =>
      obtain ⟨c, hc, hd⟩ := ih h2
      exact ⟨c, .cons h1 hc, hd⟩

theorem prp_rows {r c : Nat} {l : List Cl} (h : Prp r c l) : l.length = r * c ∧ 0 < c ∧ 0 < r ∧ ∀ x ∈ rowsOf r c l, RowOk wd okR x := by
  obtain ⟨h1, h2, h3, h4, h5, h6⟩ := h
  have hl : l.length = r * c := by exact_mod_cast h5
  refine ⟨hl, by omega, by omega, rows_ok wd okR (fun x hx => okR_wide hx) hl (by omega) fun i hi => ?_⟩
  simpa using h6 i hi
theorem rows_width {r c : Nat} {l : List Cl} (hl : l.length = r * c) {i : Nat} {x : List Cl} (h : (rowsOf r c l)[i]? = some x) : x.length = c := by
  have hi := (List.getElem?_eq_some_iff.1 h).1
  rw [rowsOf_len] at hi
  rw [rowsOf_get hi] at h
  cases h
  exact row_len hi hl

theorem shows_same {r c : Nat} {f t : List Cl} (hf : Prp r c f) (ht : Prp r c t) (s : Scr) (hs : s.g = rowsOf r c f) : ∃ s', Runs s (paintT true r c f t) s' ∧ s'.g = rowsOf r c t := by
  obtain ⟨f1, f2, _, f4⟩ := prp_rows hf
  obtain ⟨t1, _, _, t4⟩ := prp_rows ht
  obtain ⟨s', h1, h2⟩ := grid_painted wd okR okR_zero okR_space (rowsOf r c f) (rowsOf r c t) [] s (by rw [rowsOf_len, rowsOf_len]) f4 t4 (fun i x y hx hy => by rw [rows_width f1 hx, rows_width t1 hy]) (by simpa using hs)
  exact ⟨s', h1, by simpa using h2⟩
theorem shows_anew {r c : Nat} {f t : List Cl} (ht : Prp r c t) (s : Scr) (hl : s.g.length = r) (hw : ∀ x ∈ s.g, x.length = c) : ∃ s', Runs s (paintT false r c f t) s' ∧ s'.g = rowsOf r c t := by
  obtain ⟨t1, _, _, t4⟩ := prp_rows ht
  exact anew_painted wd okR okR_zero okR_space (rowsOf r c t) s (by rw [hl, rowsOf_len]) t4 (fun i x y hx hy => by rw [rows_width t1 hy]; exact hw x (List.mem_of_getElem? hx))
theorem shown_flat {r c : Nat} {t : List Cl} (ht : Prp r c t) : (rowsOf r c t).flatten = t := rowsOf_flat r c t (prp_rows ht).1
theorem rowsOf_all_width {r c : Nat} {t : List Cl} (ht : Prp r c t) : ∀ x ∈ rowsOf r c t, x.length = c := by
  intro x hx
  obtain ⟨i, hi⟩ := List.getElem?_of_mem hx
  exact rows_width (prp_rows ht).1 hi
theorem blank_len (r c : Nat) : (blankG r c).length = r := by simp [blankG]
theorem blank_width (r c : Nat) : ∀ x ∈ blankG r c, x.length = c := by
  intro x hx
  rw [blankG, List.mem_replicate] at hx
  rw [hx.2, List.length_replicate]

/-- Two grids' tokens, cut anywhere: what is done by the first part, what waits, what is done by the second one. -/
theorem shown_cut {a b : Scr} {ts : List Tok} (h : Runs a ts b) (k : Nat) (hk : k ≤ (toksB ts).length) :
    ∃ us vs p c, Runs a us c ∧ Runs c vs b ∧ (toksB ts).take k = toksB us ++ p ∧ (p = [] ∨ ∃ t r, vs = t :: r ∧ Begun t p) ∧ p ++ (toksB ts).drop k = toksB vs := by
  obtain ⟨us, vs, p, rfl, h2, h3, h4⟩ := cut_toks ts k hk
  obtain ⟨c, hc, hd⟩ := runs_split h
  exact ⟨us, vs, p, c, hc, hd, h2, h3, h4⟩
end Go.Proofs.YtnbpkabnaipimaaGreatDoor
