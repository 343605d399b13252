/- The contract of the reference's ahead. Conditions: the selections lie in memory; the numbers are places of the list or below 0. -/
import Derived.Test.YtdpmkfjomkemhaaData
namespace Go.Proofs.Ytdpmkfjomkemhaa
open Go Go.RowKit

theorem lex_iff (own : List Sl) (i j : Nat) (s t : Sl) (hs : own[i]? = some s) (ht : own[j]? = some t) : Ahead own i j ↔ Lex s t i j := by
  constructor
  · rintro (h | ⟨_, i', j', s', t', e1, e2, hs', ht', hl⟩)
    · omega
    · have : i = i' := by omega
      subst this
      have : j = j' := by omega
      subst this
      have := hs.symm.trans hs'
      cases this
      have := ht.symm.trans ht'
      cases this
      exact hl
  · intro h
    exact .inr ⟨by omega, i, j, s, t, rfl, rfl, hs, ht, h⟩

open Classical in
/-- ahead, where one number is below 0. -/
theorem ahead_neg (a : Option Addr) (n c : Nat) (own : List Sl) (x y : Int) (w : World) (h : x < 0 ∨ y < 0) :
    Calls Try.prog 19 #[.slice a n c, .int .i64 x, .int .i64 y] w fun e w' => e = .returned (.bool (decide (Ahead own x y))) ∧ Below w.heap.size w w' := by
  have E : decide (Ahead own x y) = decide (y < 0) := by
    rw [decide_eq_decide]
    unfold Ahead
    constructor
    · rintro (h' | ⟨h', i, j, s, t, e1, e2, _⟩)
      · exact h'
      · omega
    · exact .inl
  rw [E]
  go_enter Try.func19, Try.ntmps19
  by_cases hx : x < 0
  · go_wp2
    all_goals (go_ret; exact ⟨ret_bool (by simp_all), Below.refl _ _⟩)
  · have hy : y < 0 := by omega
    go_wp2
    go_ret
    exact ⟨ret_bool (by simp_all), Below.refl _ _⟩

open Classical in
set_option maxHeartbeats 2000000 in
/-- ahead, of two of the list. -/
theorem ahead_cells (g off n c : Nat) (own : List Sl) (i j : Nat) (s t : Sl) (w : World) (hlen : own.length = n) (hg : g < w.heap.size) (hc : ∀ k u, (flat Sl.cells own)[k]? = some u → w.cell? ⟨g, off + k, none⟩ = some u)
    (hs : own[i]? = some s) (ht : own[j]? = some t) :
    Calls Try.prog 19 #[.slice (some ⟨g, off, none⟩) n c, .int .i64 i, .int .i64 j] w fun e w' => e = .returned (.bool (decide (Ahead own i j))) ∧ Below w.heap.size w w' := by
  have E : decide (Ahead own i j) = decide (Lex s t i j) := by rw [decide_eq_decide]; exact lex_iff own i j s t hs ht
  rw [E]
  clear E
  obtain ⟨c0, c1⟩ := slCells hc i s hs
  obtain ⟨d0, d1⟩ := slCells hc j t ht
  have hi : i < n := by rw [← hlen]; exact (List.getElem?_eq_some_iff.1 hs).1
  have hj : j < n := by rw [← hlen]; exact (List.getElem?_eq_some_iff.1 ht).1
  have hiz : (i : Int) < (n : Int) := by omega
  have hjz : (j : Int) < (n : Int) := by omega
  have hi0 : ¬ (i : Int) < 0 := by omega
  have hj0 : ¬ (j : Int) < 0 := by omega
  have KS := Lib.hid (fun (W : World) (h : Below w.heap.size w W) => (show Below w.heap.size w W ∧ W.cell? ⟨g, off + i * 2, none⟩ = some (.int .i64 s.a) ∧ W.cell? ⟨g, off + i * 2 + 1, none⟩ = some (.int .i64 s.h) ∧ W.cell? ⟨g, off + j * 2, none⟩ = some (.int .i64 t.a) ∧ W.cell? ⟨g, off + j * 2 + 1, none⟩ = some (.int .i64 t.h) from
    ⟨h, (h.cell (by exact hg)).trans c0, (h.cell (by exact hg)).trans c1, (h.cell (by exact hg)).trans d0, (h.cell (by exact hg)).trans d1⟩))
  have LS := Lib.hid (fun W h hB => lowB w.heap.size w s W h hB)
  have LT := Lib.hid (fun W h hB => lowB w.heap.size w t W h hB)
  have HS := Lib.hid (fun W h hB => highB w.heap.size w s W h hB)
  have HT := Lib.hid (fun W h hB => highB w.heap.size w t W h hB)
  clear hc c0 c1 d0 d1 hs ht hlen
  go_enter Try.func19, Try.ntmps19
  go_wp2_with fail
  go_region_held3 (fun W => Below w.heap.size w W ∧ W.cell? ⟨g, off + i * 2, none⟩ = some (.int .i64 s.a) ∧ W.cell? ⟨g, off + i * 2 + 1, none⟩ = some (.int .i64 s.h) ∧ W.cell? ⟨g, off + j * 2, none⟩ = some (.int .i64 t.a) ∧ W.cell? ⟨g, off + j * 2 + 1, none⟩ = some (.int .i64 t.h)) (first | exact KS.out _ (Below.refl _ _).drew | exact KS.out _ (And.left (a := Below w.heap.size w _) (by assumption)).drew | exact KS.out _ (by assumption) | assumption)
    (first
      | (go_at_call 12; (with_reducible refine (LS.out _ (And.left (by assumption)) (And.left (a := Below w.heap.size w _) (by assumption)).size).mono ?_); rintro e w' ⟨rfl, hb⟩)
      | (go_at_call 12; (with_reducible refine (LT.out _ (And.left (by assumption)) (And.left (a := Below w.heap.size w _) (by assumption)).size).mono ?_); rintro e w' ⟨rfl, hb⟩))
  by_cases hlo : s.lo = t.lo
  · have h1 : (s.lo != t.lo) = false := by simp [hlo]
    go_wp2_with fail
    go_region_held3 (fun W => Below w.heap.size w W ∧ W.cell? ⟨g, off + i * 2, none⟩ = some (.int .i64 s.a) ∧ W.cell? ⟨g, off + i * 2 + 1, none⟩ = some (.int .i64 s.h) ∧ W.cell? ⟨g, off + j * 2, none⟩ = some (.int .i64 t.a) ∧ W.cell? ⟨g, off + j * 2 + 1, none⟩ = some (.int .i64 t.h)) (first | exact KS.out _ (Below.refl _ _).drew | exact KS.out _ (And.left (a := Below w.heap.size w _) (by assumption)).drew | exact KS.out _ (by assumption) | assumption)
      (first
        | (go_at_call 13; (with_reducible refine (HS.out _ (And.left (by assumption)) (And.left (a := Below w.heap.size w _) (by assumption)).size).mono ?_); rintro e w' ⟨rfl, hb⟩)
        | (go_at_call 13; (with_reducible refine (HT.out _ (And.left (by assumption)) (And.left (a := Below w.heap.size w _) (by assumption)).size).mono ?_); rintro e w' ⟨rfl, hb⟩))
    by_cases hhi : s.hi = t.hi
    · have h2 : (s.hi != t.hi) = false := by simp [hhi]
      go_wp2
      go_ret
      exact ⟨ret_bool (by rw [Bool.eq_iff_iff]; simp only [decide_eq_true_eq]; unfold Lex; omega), And.left (a := Below w.heap.size w _) (by assumption)⟩
    · have h2 : (s.hi != t.hi) = true := by simp [hhi]
      go_wp2_with fail
      go_region_held3 (fun W => Below w.heap.size w W ∧ W.cell? ⟨g, off + i * 2, none⟩ = some (.int .i64 s.a) ∧ W.cell? ⟨g, off + i * 2 + 1, none⟩ = some (.int .i64 s.h) ∧ W.cell? ⟨g, off + j * 2, none⟩ = some (.int .i64 t.a) ∧ W.cell? ⟨g, off + j * 2 + 1, none⟩ = some (.int .i64 t.h)) (first | exact KS.out _ (Below.refl _ _).drew | exact KS.out _ (And.left (a := Below w.heap.size w _) (by assumption)).drew | exact KS.out _ (by assumption) | assumption)
        (first
          | (go_at_call 13; (with_reducible refine (HS.out _ (And.left (by assumption)) (And.left (a := Below w.heap.size w _) (by assumption)).size).mono ?_); rintro e w' ⟨rfl, hb⟩)
          | (go_at_call 13; (with_reducible refine (HT.out _ (And.left (by assumption)) (And.left (a := Below w.heap.size w _) (by assumption)).size).mono ?_); rintro e w' ⟨rfl, hb⟩))
      go_wp2
      go_ret
      exact ⟨ret_bool (by rw [Bool.eq_iff_iff]; simp only [decide_eq_true_eq]; unfold Lex; omega), And.left (a := Below w.heap.size w _) (by assumption)⟩
  · have h1 : (s.lo != t.lo) = true := by simp [hlo]
    go_wp2_with fail
    go_region_held3 (fun W => Below w.heap.size w W ∧ W.cell? ⟨g, off + i * 2, none⟩ = some (.int .i64 s.a) ∧ W.cell? ⟨g, off + i * 2 + 1, none⟩ = some (.int .i64 s.h) ∧ W.cell? ⟨g, off + j * 2, none⟩ = some (.int .i64 t.a) ∧ W.cell? ⟨g, off + j * 2 + 1, none⟩ = some (.int .i64 t.h)) (first | exact KS.out _ (Below.refl _ _).drew | exact KS.out _ (And.left (a := Below w.heap.size w _) (by assumption)).drew | exact KS.out _ (by assumption) | assumption)
      (first
        | (go_at_call 12; (with_reducible refine (LS.out _ (And.left (by assumption)) (And.left (a := Below w.heap.size w _) (by assumption)).size).mono ?_); rintro e w' ⟨rfl, hb⟩)
        | (go_at_call 12; (with_reducible refine (LT.out _ (And.left (by assumption)) (And.left (a := Below w.heap.size w _) (by assumption)).size).mono ?_); rintro e w' ⟨rfl, hb⟩))
    go_wp2
    go_ret
    exact ⟨ret_bool (by rw [Bool.eq_iff_iff]; simp only [decide_eq_true_eq]; unfold Lex; omega), And.left (a := Below w.heap.size w _) (by assumption)⟩

/-- A place of the list, or below 0. -/
def Place (own : List Sl) (x : Int) : Prop := x < 0 ∨ ∃ (i : Nat) (s : Sl), x = i ∧ own[i]? = some s

open Classical in
theorem ahead (a : Option Addr) (n c : Nat) (own : List Sl) (x y : Int) (w : World) (h : RowAt Sl.cells 24 w a n own) (hx : Place own x) (hy : Place own y) :
    Calls Try.prog 19 #[.slice a n c, .int .i64 x, .int .i64 y] w fun e w' => e = .returned (.bool (decide (Ahead own x y))) ∧ Below w.heap.size w w' := by
  rcases hx with hx | ⟨i, s, rfl, hs⟩
  · exact ahead_neg a n c own x y w (.inl hx)
  · rcases hy with hy | ⟨j, t, rfl, ht⟩
    · exact ahead_neg a n c own i y w (.inr hy)
    · rcases h.2 with h0 | ⟨b, off, rfl, hh, hc⟩
      · have := h.1
        have := (List.getElem?_eq_some_iff.1 hs).1
        omega
      · exact ahead_cells b off n c own i j s t w h.1 hh hc hs ht

end Go.Proofs.Ytdpmkfjomkemhaa
