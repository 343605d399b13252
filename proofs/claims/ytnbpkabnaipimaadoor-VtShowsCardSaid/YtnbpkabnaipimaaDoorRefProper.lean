/- The contracts of the reference's Rune and Proper: which runes may be shown, which grids are proper. Condition: the cells lie in memory. -/
import Derived.Test.YtnbpkabnaipimaaDoorData
import Derived.Test.YtnbpkabnaipimaaDoorProper
import Derived.BigRegion
import Derived.Shelf.RegionOpenPlain
namespace Go.Proofs.YtnbpkabnaipimaaDoor
open Go Go.RowKit

/-- May a rune be shown? -/
def okR (c : Int) : Bool := Lib.validRune c && decide (32 ≤ c) && (decide (c < 127) || decide (159 < c)) && decide (0 < wd c)
theorem okR_wide {c : Int} (h : okR c = true) : wd c = 1 ∨ wd c = 2 := by
  have := wd_bounds c
  simp only [okR, Bool.and_eq_true, decide_eq_true_eq] at h
  omega
theorem okR_zero : okR 0 = false := by decide
theorem okR_space : okR 32 = true ∧ wd 32 = 1 := by decide
theorem okR_valid {c : Int} (h : okR c = true) : Lib.validRune c = true := by
  simp only [okR, Bool.and_eq_true] at h
  exact h.1.1.1


/-- A proper grid. -/
def Prp (R C : Int) (l : List Cl) : Prop := 1 ≤ R ∧ R ≤ 60 ∧ 1 ≤ C ∧ C ≤ 60 ∧ (l.length : Int) = R * C ∧ ∀ i, i < l.length → CellOk wd okR C.toNat l i

theorem not_style {cols : Nat} {l : List Cl} {k : Nat} {c : Cl} (h : l[k]? = some c) (hs : c.s < 0 ∨ 7 < c.s) : ¬ CellOk wd okR cols l k := by
  rintro ⟨d, hd, h0, h7, -⟩
  rw [h] at hd
  cases hd
  omega
theorem zero_col {cols : Nat} {l : List Cl} {k : Nat} {c : Cl} (h : l[k]? = some c) (h0 : c.r = 0) (hm : k % cols = 0) : ¬ CellOk wd okR cols l k := by
  rintro ⟨d, hd, _, _, hz, _⟩
  rw [h] at hd
  cases hd
  exact (hz h0).1 hm
theorem zero_prev {cols : Nat} {l : List Cl} {k : Nat} {c p : Cl} (h : l[k]? = some c) (h0 : c.r = 0) (hp : l[k - 1]? = some p) (hb : p.r = 0 ∨ wd p.r ≠ 2 ∨ p.s ≠ c.s) : ¬ CellOk wd okR cols l k := by
  rintro ⟨d, hd, _, _, hz, _⟩
  rw [h] at hd
  cases hd
  obtain ⟨_, q, hq, h1, h2, h3⟩ := hz h0
  rw [hp] at hq
  cases hq
  rcases hb with hb | hb | hb
  · exact h1 hb
  · exact hb h2
  · exact hb h3
theorem rune_bad {cols : Nat} {l : List Cl} {k : Nat} {c : Cl} (h : l[k]? = some c) (h0 : c.r ≠ 0) (hb : okR c.r = false) : ¬ CellOk wd okR cols l k := by
  rintro ⟨d, hd, _, _, _, hn⟩
  rw [h] at hd
  cases hd
  rw [(hn h0).1] at hb
  cases hb
theorem wide_col {cols : Nat} {l : List Cl} {k : Nat} {c : Cl} (h : l[k]? = some c) (h0 : c.r ≠ 0) (hw : wd c.r = 2) (hm : k % cols = cols - 1) : ¬ CellOk wd okR cols l k := by
  rintro ⟨d, hd, _, _, _, hn⟩
  rw [h] at hd
  cases hd
  exact ((hn h0).2 hw).1 hm
theorem wide_next {cols : Nat} {l : List Cl} {k : Nat} {c q : Cl} (h : l[k]? = some c) (h0 : c.r ≠ 0) (hw : wd c.r = 2) (hq : l[k + 1]? = some q) (hb : q.r ≠ 0) : ¬ CellOk wd okR cols l k := by
  rintro ⟨d, hd, _, _, _, hn⟩
  rw [h] at hd
  cases hd
  obtain ⟨_, x, hx, h1⟩ := (hn h0).2 hw
  rw [hq] at hx
  cases hx
  exact hb h1
theorem next_in {rows cols k n : Nat} (hn : n = rows * cols) (hk : k < n) (hm : k % cols ≠ cols - 1) : k + 1 < n := by
  rcases Nat.lt_or_ge (k + 1) n with h | h
  · exact h
  · exfalso
    obtain rfl : n = k + 1 := by omega
    apply hm
    have hc : 0 < cols := by
      rcases Nat.eq_zero_or_pos cols with rfl | h
      · omega
      · exact h
    have : (k + 1) % cols = 0 := by rw [hn, Nat.mul_mod_left]
    have h1 := Nat.mod_lt k hc
    rw [Nat.add_mod] at this
    by_cases h2 : cols = 1
    · subst h2; omega
    · rw [Nat.mod_eq_of_lt (show 1 < cols by omega)] at this
      rcases Nat.lt_or_ge (k % cols + 1) cols with h3 | h3
      · rw [Nat.mod_eq_of_lt h3] at this; omega
      · omega

theorem zero_ok {cols : Nat} {l : List Cl} {k : Nat} {c p : Cl} (h : l[k]? = some c) (hs0 : 0 ≤ c.s) (hs7 : c.s ≤ 7) (h0 : c.r = 0) (hm : k % cols ≠ 0) (hp : l[k - 1]? = some p) (h1 : p.r ≠ 0) (h2 : wd p.r = 2) (h3 : p.s = c.s) : CellOk wd okR cols l k :=
  ⟨c, h, hs0, hs7, fun _ => ⟨hm, p, hp, h1, h2, h3⟩, fun hn => absurd h0 hn⟩
theorem wide_ok {cols : Nat} {l : List Cl} {k : Nat} {c q : Cl} (h : l[k]? = some c) (hs0 : 0 ≤ c.s) (hs7 : c.s ≤ 7) (h0 : c.r ≠ 0) (ho : okR c.r = true) (hm : k % cols ≠ cols - 1) (hq : l[k + 1]? = some q) (h1 : q.r = 0) : CellOk wd okR cols l k :=
  ⟨c, h, hs0, hs7, fun hn => absurd hn h0, fun _ => ⟨ho, fun _ => ⟨hm, q, hq, h1⟩⟩⟩
theorem narrow_ok {cols : Nat} {l : List Cl} {k : Nat} {c : Cl} (h : l[k]? = some c) (hs0 : 0 ≤ c.s) (hs7 : c.s ≤ 7) (h0 : c.r ≠ 0) (ho : okR c.r = true) (hw : wd c.r ≠ 2) : CellOk wd okR cols l k :=
  ⟨c, h, hs0, hs7, fun hn => absurd hn h0, fun _ => ⟨ho, fun hn => absurd hn hw⟩⟩

/-- What Proper answers. -/
def GotP (R C : Int) (l : List Cl) (w : World) (e : Ending) (w' : World) : Prop := ∃ b, e = .returned (.bool b) ∧ (b = true ↔ Prp R C l) ∧ Below w.heap.size w w'

end Go.Proofs.YtnbpkabnaipimaaDoor
