/- Cells that are written in place, in a row that one owns; objects with fields that are written. No walk. -/
import Derived.Test.YtnbpkabnaipimaaGreatDoorData
namespace Go.Proofs.YtnbpkabnaipimaaGreatDoor
open Go Go.RowKit

theorem flat_set (l : List Cl) (i : Nat) (x : Cl) : flat (l.set i x) = ((flat l).set (i * 2) (.int .i32 x.r)).set (i * 2 + 1) (.int .i64 x.s) := by
  induction l generalizing i with
  | nil => simp [flat]
  | cons y l ih =>
    cases i with
    | zero => rw [List.set_cons_zero, flat_cons, flat_cons]; rfl
    | succ i =>
      rw [List.set_cons_succ, flat_cons, flat_cons, ih i]
      show _ = ((Value.int .i32 y.r :: Value.int .i64 y.s :: flat l).set ((i + 1) * 2) _).set ((i + 1) * 2 + 1) _
      rw [show (i + 1) * 2 = i * 2 + 1 + 1 by omega, show i * 2 + 1 + 1 + 1 = (i * 2 + 1) + 1 + 1 by omega]
      rfl
theorem set_same {α : Type} {l : List α} {i : Nat} {x : α} (h : l[i]? = some x) : l.set i x = l := by
  obtain ⟨hlt, rfl⟩ := List.getElem?_eq_some_iff.1 h
  exact List.set_getElem_self hlt
theorem flat_set_s (l : List Cl) (i : Nat) (x : Cl) (h : l[i]? = some x) (s : Int) : flat (l.set i ⟨x.r, s⟩) = (flat l).set (i * 2 + 1) (.int .i64 s) := by
  rw [flat_set]
  congr 1
  have := flat_get l i 0 x h (by omega)
  rw [Nat.add_zero] at this
  exact set_same this
theorem flat_set_r (l : List Cl) (i : Nat) (x : Cl) (h : l[i]? = some x) (r : Int) : flat (l.set i ⟨r, x.s⟩) = (flat l).set (i * 2) (.int .i32 r) := by
  rw [flat_set]
  have := flat_get l i 1 x h (by omega)
  refine set_same ?_
  rw [List.getElem?_set_ne (by omega)]
  exact this

/-- One value of a row that one owns is written. -/
theorem own_set1 {w : World} {B e size n c g j : Nat} {xs : List Value} {v : Value} (h : w.ownsRow B e size (.slice (some ⟨g, 0, none⟩) n c) n xs) (_hj : j < n * size) : (w.setCell ⟨g, j, none⟩ v).ownsRow B e size (.slice (some ⟨g, 0, none⟩) n c) n (xs.set j v) := by
  refine ⟨by rw [List.length_set]; exact h.1, .inr ?_⟩
  rcases h.2 with ⟨h0, _⟩ | ⟨g', cap, cur, he, hB, hg, hc, hm, hs, ht⟩
  · cases h0
  · cases he
    refine ⟨g, c, cur.setIfInBounds j v, rfl, hB, ?_, hc, hm, by rw [Array.size_setIfInBounds]; exact hs, ?_⟩
    · simp [World.setCell, Array.getElem?_modify, hg]
    · rw [Array.toList_setIfInBounds, List.take_set, ht]
/-- One cell of a row that one owns is written. -/
theorem own_put {w : World} {B e n c g i : Nat} {l : List Cl} (h : w.ownsRow B e 2 (.slice (some ⟨g, 0, none⟩) n c) n (flat l)) (hi : i < n) (x : Cl) :
    ((w.setCell ⟨g, i * 2, none⟩ (.int .i32 x.r)).setCell ⟨g, i * 2 + 1, none⟩ (.int .i64 x.s)).ownsRow B e 2 (.slice (some ⟨g, 0, none⟩) n c) n (flat (l.set i x)) := by
  rw [flat_set]
  exact own_set1 (own_set1 h (by omega)) (by omega)
/-- A cell of a row that one owns: what it holds, and that it may be written. -/
theorem own_at {w : World} {B e n c g i : Nat} {l : List Cl} (h : w.ownsRow B e 2 (.slice (some ⟨g, 0, none⟩) n c) n (flat l)) {x : Cl} (hx : l[i]? = some x) :
    (w.cell? ⟨g, i * 2, none⟩ = some (.int .i32 x.r) ∧ w.frozen? ⟨g, i * 2, none⟩ = false) ∧ (w.cell? ⟨g, i * 2 + 1, none⟩ = some (.int .i64 x.s) ∧ w.frozen? ⟨g, i * 2 + 1, none⟩ = false) := by
  have hc := h.cells (g := g) rfl
  have c0 := hc (i * 2) _ ((flat_get l i 0 x hx (by omega)).trans rfl)
  have c1 := hc (i * 2 + 1) _ ((flat_get l i 1 x hx (by omega)).trans rfl)
  rw [Addr.add_lit, Nat.zero_add] at c0 c1
  rcases h.2 with ⟨h0, _⟩ | ⟨g', cap, cur, he, hB, hg, _⟩
  · cases h0
  · cases he
    refine ⟨⟨c0, ?_⟩, c1, ?_⟩
    · unfold World.frozen?
      rw [hg]
      simp
    · unfold World.frozen?
      rw [hg]
      simp
/-- A row that one owns stays while another block is written. -/
theorem own_other {w : World} {B e size n : Nat} {v : Value} {xs : List Value} (h : w.ownsRow B e size v n xs) {a : Addr} (ha : v.ownBlock ≠ some a.block) (u : Value) : (w.setCell a u).ownsRow B e size v n xs := by
  refine ⟨h.1, ?_⟩
  rcases h.2 with h0 | ⟨g, cap, cur, rfl, hB, hg, hr⟩
  · exact .inl h0
  · exact .inr ⟨g, cap, cur, rfl, hB, (Below.heap_setCell w a u g (fun e => ha (by rw [← e]; rfl))).trans hg, hr⟩
end Go.Proofs.YtnbpkabnaipimaaGreatDoor
