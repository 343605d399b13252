/- Plain mathematics: sums of widths, how many fit. No program in it but the width of one rune. -/
import Derived.Test.YtdeckkmlcbbjcaaDoorWalkA
namespace Go.Proofs.YtdeckkmlcbbjcaaDoor
open Go Go.RowKit

/-- The sum of widths. -/
def sw : List Int → Int
  | [] => 0
  | z :: r => wd z + sw r
theorem sw_append (a b : List Int) : sw (a ++ b) = sw a + sw b := by
  induction a with
  | nil => simp [sw]
  | cons z r ih => simp [sw, ih]; omega
theorem sw_bounds (l : List Int) : 0 ≤ sw l ∧ sw l ≤ 2 * (l.length : Int) := by
  induction l with
  | nil => simp [sw]
  | cons z r ih =>
    have := wd_bounds z
    simp only [sw, List.length_cons]
    omega
theorem sw_snoc (l : List Int) (k : Nat) (z : Int) (h : l[k]? = some z) : sw (l.take (k + 1)) = sw (l.take k) + wd z := by
  rw [List.take_add_one, h, sw_append]
  simp [sw]
theorem sw_take_le (l : List Int) (k : Nat) : sw (l.take k) ≤ sw (l.take (k + 1)) := by
  rw [List.take_add_one, sw_append]
  have := (sw_bounds l[k]?.toList).1
  omega
theorem sw_take_mono (l : List Int) {i j : Nat} (h : i ≤ j) : sw (l.take i) ≤ sw (l.take j) := by
  induction h with
  | refl => omega
  | step _ ih => exact Int.le_trans ih (sw_take_le l _)

/-- How many fit, from the first one on, into columns that are not below 0. -/
def fitL : List Int → Int → Nat
  | [], _ => 0
  | z :: r, c => if c - wd z < 0 then 0 else fitL r (c - wd z) + 1
/-- How many fit. -/
def fitZ (l : List Int) (c : Int) : Nat := if c < 0 then 0 else fitL l c
theorem fitL_le (l : List Int) (c : Int) : fitL l c ≤ l.length := by
  induction l generalizing c with
  | nil => simp [fitL]
  | cons z r ih =>
    unfold fitL
    split
    · omega
    · have := ih (c - wd z); simp; omega
theorem fitL_fits (l : List Int) (c : Int) (hc : 0 ≤ c) : sw (l.take (fitL l c)) ≤ c := by
  induction l generalizing c with
  | nil => simpa [fitL, sw] using hc
  | cons z r ih =>
    unfold fitL
    split
    · simpa [sw] using hc
    · have := ih (c - wd z) (by omega)
      simp only [List.take_succ_cons, sw]
      omega
theorem fitL_next (l : List Int) (c : Int) (h : fitL l c < l.length) : c < sw (l.take (fitL l c + 1)) := by
  induction l generalizing c with
  | nil => simp at h
  | cons z r ih =>
    unfold fitL at h ⊢
    split at h
    · rename_i h1
      rw [if_pos h1]
      simp [sw]
      omega
    · rename_i h1
      rw [if_neg h1]
      have := ih (c - wd z) (by simpa using h)
      simp only [List.take_succ_cons, sw]
      omega
/-- As the program comes to it: the first k fit. -/
theorem fitL_stop (l : List Int) (c : Int) (hc : 0 ≤ c) (k : Nat) (hk : k ≤ l.length) (h1 : sw (l.take k) ≤ c) (h2 : k < l.length → c < sw (l.take (k + 1))) : fitL l c = k := by
  rcases Nat.lt_trichotomy (fitL l c) k with h | h | h
  · have a := fitL_next l c (by omega)
    have b := sw_take_mono l (show fitL l c + 1 ≤ k by omega)
    omega
  · exact h
  · have a := fitL_fits l c hc
    have b := sw_take_mono l (show k + 1 ≤ fitL l c by omega)
    have := fitL_le l c
    have := h2 (by omega)
    omega
/-- The reference's best, the first i numbers tried. -/
def best (l : List Int) (c : Int) : Nat → Nat
  | 0 => 0
  | i + 1 => if sw (l.take i) ≤ c then i else best l c i
theorem best_neg (l : List Int) (c : Int) (hc : c < 0) (i : Nat) : best l c i = 0 := by
  induction i with
  | zero => rfl
  | succ i ih =>
    have := (sw_bounds (l.take i)).1
    rw [best, if_neg (by omega), ih]
theorem best_is (l : List Int) (c : Int) (hc : 0 ≤ c) (i : Nat) (hi : i ≤ l.length) : best l c (i + 1) = min i (fitL l c) := by
  have a := fitL_fits l c hc
  induction i with
  | zero => simp [best, sw, hc]
  | succ i ih =>
    rw [best]
    have ih := ih (by omega)
    split
    · rename_i h
      by_cases hlt : fitL l c < i + 1
      · have b := fitL_next l c (by omega)
        have d := sw_take_mono l (show fitL l c + 1 ≤ i + 1 by omega)
        omega
      · omega
    · rename_i h
      by_cases hlt : i + 1 ≤ fitL l c
      · have d := sw_take_mono l hlt
        omega
      · rw [ih]; omega
theorem best_all (l : List Int) (c : Int) : best l c (l.length + 1) = fitZ l c := by
  unfold fitZ
  split
  · rename_i h; exact best_neg l c h _
  · have := fitL_le l c
    rw [best_is l c (by omega) _ (Nat.le_refl _)]
    omega
theorem best_lt (l : List Int) (c : Int) (i : Nat) : best l c i ≤ i := by
  induction i with
  | zero => simp [best]
  | succ i ih => rw [best]; split <;> omega
end Go.Proofs.YtdeckkmlcbbjcaaDoor
