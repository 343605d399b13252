/- What a grid's cells are in memory: two values a cell, one behind the other; slices of them. No walk. -/
import Derived.Test.YtnbpkabnaipimaaDoorPaint
import Derived.Test.YtnbpkabnaipimaaDoorUtf
import Derived.Lib.SliceRun
import Derived.Laws.AppendOwnNone
import Derived.Laws.ResultCell
import Derived.ArgAppend
import Derived.Deep.OwnRows
import Derived.Deep.RegionLawGrows
import Derived.Deep.RegionLaw
import Derived.Deep.RegionHeld3
namespace Go.Proofs.YtnbpkabnaipimaaDoor
open Go Go.RowKit

def Cl.cells (x : Cl) : List Value := [.int .i32 x.r, .int .i64 x.s]
def flat (l : List Cl) : List Value := l.flatMap Cl.cells
theorem flat_nil : flat [] = [] := rfl
theorem flat_cons (x : Cl) (r : List Cl) : flat (x :: r) = x.cells ++ flat r := by simp [flat]
theorem flat_append (l m : List Cl) : flat (l ++ m) = flat l ++ flat m := by simp [flat]
theorem flat_one (x : Cl) : flat [x] = x.cells := by simp [flat]
theorem cells_len (x : Cl) : x.cells.length = 2 := rfl
theorem flat_len (l : List Cl) : (flat l).length = l.length * 2 := by
  induction l with
  | nil => rfl
  | cons x r ih => rw [flat_cons, List.length_append, ih, List.length_cons, Nat.add_mul, cells_len]; omega
theorem flat_get (l : List Cl) (k i : Nat) (x : Cl) (h : l[k]? = some x) (hi : i < 2) : (flat l)[k * 2 + i]? = x.cells[i]? := by
  induction l generalizing k with
  | nil => cases h
  | cons y r ih =>
    cases k with
    | zero =>
      cases h
      rw [flat_cons, List.getElem?_append_left (by rw [cells_len]; omega), Nat.zero_mul, Nat.zero_add]
    | succ k =>
      rw [flat_cons, List.getElem?_append_right (by rw [cells_len]; omega), show (k + 1) * 2 + i - y.cells.length = k * 2 + i by rw [cells_len]; omega]
      exact ih k (by simpa using h)
theorem flat_take (l : List Cl) (k : Nat) : flat (l.take k) = (flat l).take (k * 2) := by
  induction l generalizing k with
  | nil => simp [flat]
  | cons x r ih =>
    cases k with
    | zero => simp [flat]
    | succ k =>
      rw [List.take_succ_cons, flat_cons, flat_cons, ih, List.take_append, List.take_of_length_le (l := x.cells) (by rw [cells_len]; omega), show (k + 1) * 2 - x.cells.length = k * 2 by rw [cells_len]; omega]
theorem flat_drop (l : List Cl) (k : Nat) : flat (l.drop k) = (flat l).drop (k * 2) := by
  induction l generalizing k with
  | nil => simp [flat]
  | cons x r ih =>
    cases k with
    | zero => simp [flat]
    | succ k =>
      rw [List.drop_succ_cons, flat_cons, ih, List.drop_append, List.drop_of_length_le (l := x.cells) (by rw [cells_len]; omega), show (k + 1) * 2 - x.cells.length = k * 2 by rw [cells_len]; omega]
      rfl
theorem flat_cells_one (l : List Cl) : ∀ u ∈ flat l, u.oneCell' = true := by
  intro u hu
  simp only [flat, List.mem_flatMap, Cl.cells] at hu
  obtain ⟨x, _, h⟩ := hu
  simp at h
  rcases h with rfl | rfl <;> rfl
theorem cells_one1 (x : Cl) : ∀ u ∈ x.cells, u.oneCell' = true := by
  have := flat_cells_one [x]
  rwa [flat_one] at this

/-- Cells in memory. -/
def RowAt (w : World) (a : Option Addr) (n : Nat) (l : List Cl) : Prop :=
  l.length = n ∧ (n = 0 ∨ ∃ b off, a = some ⟨b, off, none⟩ ∧ b < w.heap.size ∧ ∀ j u, (flat l)[j]? = some u → w.cell? ⟨b, off + j, none⟩ = some u)
theorem lt_of_block {w : World} {k : Nat} {o : Obj} (h : w.heap[k]? = some o) : k < w.heap.size := (Array.getElem?_eq_some_iff.1 h).1
theorem RowAt.below {w w' : World} {a : Option Addr} {n : Nat} {l : List Cl} (h : RowAt w a n l) (hb : Below w.heap.size w w') : RowAt w' a n l := by
  refine ⟨h.1, ?_⟩
  rcases h.2 with h0 | ⟨b, off, rfl, hlt, hc⟩
  · exact .inl h0
  · exact .inr ⟨b, off, rfl, Nat.lt_of_lt_of_le hlt hb.size, fun j z hz => (hb.cell (by exact hlt)).trans (hc j z hz)⟩
theorem own_below {w w' : World} {B e size : Nat} {v : Value} {n : Nat} {xs : List Value} (h : w.ownsRow B e size v n xs) (hb : Below w.heap.size w w') : w'.ownsRow B e size v n xs := by
  refine ⟨h.1, ?_⟩
  rcases h.2 with h0 | ⟨g, cap, cur, rfl, hB, hg, hr⟩
  · exact .inl h0
  · exact .inr ⟨g, cap, cur, rfl, hB, (hb.block g (Array.getElem?_eq_some_iff.1 hg).1).trans hg, hr⟩
theorem own_mono {w : World} {B B' e size : Nat} {v : Value} {n : Nat} {xs : List Value} (h : w.ownsRow B e size v n xs) (hb : B' ≤ B) : w.ownsRow B' e size v n xs := by
  refine ⟨h.1, ?_⟩
  rcases h.2 with h0 | ⟨g, cap, cur, rfl, hB, hr⟩
  · exact .inl h0
  · exact .inr ⟨g, cap, cur, rfl, Nat.le_trans hb hB, hr⟩
theorem own_form {w : World} {B e n size : Nat} {v : Value} {xs : List Value} (h : w.ownsRow B e size v n xs) : ∃ a c, v = .slice a n c ∧ n ≤ c := by
  rcases h.2 with ⟨rfl, rfl⟩ | ⟨g, c, cur, rfl, _, _, hc, _⟩
  · exact ⟨none, 0, rfl, Nat.le_refl _⟩
  · exact ⟨_, c, rfl, hc⟩
theorem own_row {w : World} {B e n : Nat} {v : Value} {l : List Cl} (h : w.ownsRow B e 2 v n (flat l)) : ∃ a c, v = .slice a n c ∧ n ≤ c ∧ (a = none → n = 0 ∧ c = 0) ∧ RowAt w a n l := by
  have hl := h.1
  rw [flat_len] at hl
  have hl' : l.length = n := by omega
  rcases h.2 with ⟨rfl, rfl⟩ | ⟨g, cap, cur, rfl, hB, hg, hcap, _⟩
  · exact ⟨none, 0, rfl, Nat.le_refl _, fun _ => ⟨rfl, rfl⟩, hl', .inl rfl⟩
  · refine ⟨_, cap, rfl, hcap, fun h => (by cases h), hl', .inr ⟨g, 0, rfl, (Array.getElem?_eq_some_iff.1 hg).1, fun j u hu => ?_⟩⟩
    have := h.cells (g := g) rfl j u hu
    rwa [Addr.add_lit] at this
theorem own_bytes {w : World} {B n : Nat} {v : Value} {zs : List Int} (h : w.ownsRow B 5 1 v n (zs.map (Value.int .u8))) : ∃ a c, v = .slice a n c ∧ n ≤ c ∧ (a = none → n = 0 ∧ c = 0) ∧ SeqAt .u8 w a n zs := by
  have hl := h.1
  rw [List.length_map] at hl
  have hl' : zs.length = n := by omega
  rcases h.2 with ⟨rfl, rfl⟩ | ⟨g, cap, cur, rfl, hB, hg, hcap, _⟩
  · exact ⟨none, 0, rfl, Nat.le_refl _, fun _ => ⟨rfl, rfl⟩, hl', .inl rfl⟩
  · refine ⟨_, cap, rfl, hcap, fun h => (by cases h), hl', .inr ⟨g, 0, rfl, (Array.getElem?_eq_some_iff.1 hg).1, fun j z hz => ?_⟩⟩
    have := h.cells (g := g) rfl j (.int .u8 z) (by rw [List.getElem?_map, hz]; rfl)
    rwa [Addr.add_lit] at this

/-- The values of one cell, as a walk meets them. -/
theorem clCells {w : World} {b off : Nat} {l : List Cl} (hc : ∀ j u, (flat l)[j]? = some u → w.cell? ⟨b, off + j, none⟩ = some u) (k : Nat) (x : Cl) (h : l[k]? = some x) :
    w.cell? ⟨b, off + k * 2, none⟩ = some (.int .i32 x.r) ∧ w.cell? ⟨b, off + k * 2 + 1, none⟩ = some (.int .i64 x.s) :=
  ⟨hc (k * 2) _ ((flat_get l k 0 x h (by omega)).trans rfl), hc (k * 2 + 1) _ ((flat_get l k 1 x h (by omega)).trans rfl)⟩
end Go.Proofs.YtnbpkabnaipimaaDoor
