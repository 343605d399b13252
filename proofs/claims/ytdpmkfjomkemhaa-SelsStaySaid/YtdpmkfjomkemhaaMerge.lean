/- Pure lists for the walk of the reference's Normal: what is apart so far, two made one at their places; a frozen cell there is none. No walk. -/
import Derived.Test.YtdpmkfjomkemhaaSteps
namespace Go.Proofs.Ytdpmkfjomkemhaa
open Go Go.RowKit

def lenV : Value → Nat
  | .slice _ n _ => n
  | _ => 0

/-- The first p groups are apart from all behind them. -/
def Sofar (gs : List Gp) (p : Nat) : Prop := ∀ i j x y, i < p → i < j → gs[i]? = some x → gs[j]? = some y → x.hi < y.lo ∨ y.hi < x.lo
/-- The group at place p is apart from those behind it, ahead of place q. -/
def Rowfar (gs : List Gp) (p q : Nat) : Prop := ∀ j x y, p < j → j < q → gs[p]? = some x → gs[j]? = some y → x.hi < y.lo ∨ y.hi < x.lo

theorem sofar_apart {gs : List Gp} (h : Sofar gs gs.length) : Apart gs := List.pairwise_iff_getElem.2 fun i j hi hj hij => h i j _ _ hi hij (List.getElem?_eq_getElem hi) (List.getElem?_eq_getElem hj)
theorem sofar_zero (gs : List Gp) : Sofar gs 0 := fun _ _ _ _ h => absurd h (Nat.not_lt_zero _)
theorem rowfar_start (gs : List Gp) (p : Nat) : Rowfar gs p (p + 1) := fun j _ _ h1 h2 => by omega
theorem sofar_next {gs : List Gp} {p : Nat} (h : Sofar gs p) (hr : Rowfar gs p gs.length) : Sofar gs (p + 1) := by
  intro i j x y hi hij hx hy
  by_cases e : i = p
  · subst e
    exact hr j x y hij (List.getElem?_eq_some_iff.1 hy).1 hx hy
  · exact h i j x y (by omega) hij hx hy
theorem rowfar_next {gs : List Gp} {p q : Nat} {x y : Gp} (h : Rowfar gs p q) (hx : gs[p]? = some x) (hy : gs[q]? = some y) (ha : x.hi < y.lo ∨ y.hi < x.lo) : Rowfar gs p (q + 1) := by
  intro j x' y' hj hj' hx' hy'
  have := hx.symm.trans hx'
  cases this
  by_cases e : j = q
  · subst e
    have := hy.symm.trans hy'
    cases this
    exact ha
  · exact h j x y' hj (by omega) hx hy'

theorem parts {gs : List Gp} {p q : Nat} {x y : Gp} (hx : gs[p]? = some x) (hy : gs[q]? = some y) (hpq : p < q) (m : Gp) :
    ∃ A B C, gs = A ++ x :: (B ++ y :: C) ∧ (gs.set p m).take q ++ (gs.set p m).drop (q + 1) = A ++ m :: (B ++ C) := by
  obtain ⟨hp, rfl⟩ := List.getElem?_eq_some_iff.1 hx
  obtain ⟨hq, rfl⟩ := List.getElem?_eq_some_iff.1 hy
  refine ⟨gs.take p, (gs.drop (p + 1)).take (q - (p + 1)), gs.drop (q + 1), ?_, ?_⟩
  · have h1 : gs = gs.take p ++ gs.drop p := (List.take_append_drop p gs).symm
    have h2 : gs.drop p = gs[p] :: gs.drop (p + 1) := List.drop_eq_getElem_cons hp
    have h3 : gs.drop (p + 1) = (gs.drop (p + 1)).take (q - (p + 1)) ++ (gs.drop (p + 1)).drop (q - (p + 1)) := (List.take_append_drop _ _).symm
    have h4 : (gs.drop (p + 1)).drop (q - (p + 1)) = gs.drop q := by rw [List.drop_drop]; congr 1; omega
    have h5 : gs.drop q = gs[q] :: gs.drop (q + 1) := List.drop_eq_getElem_cons hq
    calc gs = gs.take p ++ gs.drop p := h1
      _ = gs.take p ++ gs[p] :: ((gs.drop (p + 1)).take (q - (p + 1)) ++ gs[q] :: gs.drop (q + 1)) := by rw [h2, ← h5, ← h4, ← h3]
  · have e1 : (gs.set p m).drop (q + 1) = gs.drop (q + 1) := by rw [List.drop_set_of_lt (by omega)]
    have e2 : (gs.set p m).take q = gs.take p ++ m :: (gs.drop (p + 1)).take (q - (p + 1)) := by
      rw [List.set_eq_take_append_cons_drop, if_pos hp, List.take_append, List.take_of_length_le (by rw [List.length_take]; omega), List.length_take, Nat.min_eq_left (by omega)]
      congr 1
      obtain ⟨d, hd⟩ : ∃ d, q - p = d + 1 := ⟨q - p - 1, by omega⟩
      rw [hd, List.take_succ_cons, show q - (p + 1) = d by omega]
    rw [e1, e2, List.append_assoc, List.cons_append]

theorem Groups.merge_at {own : List Sl} {gs : List Gp} {p q : Nat} {x y : Gp} {w : Int} (h : Groups own gs) (hx : gs[p]? = some x) (hy : gs[q]? = some y) (hpq : p < q) (t1 : x.lo ≤ y.hi) (t2 : y.lo ≤ x.hi)
    (hw : w = y.who ∧ Ahead own y.who x.who ∨ w = x.who ∧ ¬ Ahead own y.who x.who) : Groups own ((gs.set p (both x y w)).take q ++ (gs.set p (both x y w)).drop (q + 1)) := by
  obtain ⟨A, B, C, e1, e2⟩ := parts hx hy hpq (both x y w)
  rw [e2]
  rw [e1] at h
  exact h.merge t1 t2 hw
theorem cut_len {α : Type} {l : List α} {q : Nat} (h : q < l.length) : (l.take q ++ l.drop (q + 1)).length = l.length - 1 := by
  rw [List.length_append, List.length_take, List.length_drop]
  omega

theorem Own.place {own : List Sl} {x : Gp} (h : Own own x) : Place own x.who := by
  rcases h with h | ⟨i, s, e, hs, _⟩
  · exact .inl h
  · exact .inr ⟨i, s, e, hs⟩

theorem own_frozen {w : World} {B e s n c g : Nat} {xs : List Value} (h : w.ownsRow B e s (.slice (some ⟨g, 0, none⟩) n c) n xs) (i : Nat) : w.frozen? ⟨g, i, none⟩ = false := by
  rcases h.2 with ⟨h1, _⟩ | ⟨g', cap, cur, he, _, hg, _⟩
  · cases h1
  · cases he
    simp [World.frozen?, hg]

/-- A row of groups of the call's own, not empty: its block. -/
theorem own_block {w : World} {B n : Nat} {v : Value} {gs : List Gp} (h : w.ownsRow B 43 3 v n (flat Gp.cells gs)) (hn : 0 < n) :
    ∃ g c, v = .slice (some ⟨g, 0, none⟩) n c ∧ B ≤ g ∧ g < w.heap.size ∧ n ≤ c := by
  rcases h.2 with ⟨_, h0⟩ | ⟨g, cap, cur, rfl, hB, hg, hcap, _⟩
  · omega
  · exact ⟨g, cap, rfl, hB, (Array.getElem?_eq_some_iff.1 hg).1, hcap⟩
theorem own_cells {w : World} {B n g c : Nat} {gs : List Gp} (h : w.ownsRow B 43 3 (.slice (some ⟨g, 0, none⟩) n c) n (flat Gp.cells gs)) (k : Nat) (x : Gp) (hk : gs[k]? = some x) :
    w.cell? ⟨g, k * 3, none⟩ = some (.int .i64 x.lo) ∧ w.cell? ⟨g, k * 3 + 1, none⟩ = some (.int .i64 x.hi) ∧ w.cell? ⟨g, k * 3 + 2, none⟩ = some (.int .i64 x.who) := by
  have := gpCells (w := w) (b := g) (off := 0) (l := gs) (fun j u hu => by
    have := h.cells (g := g) rfl j u hu
    rwa [Addr.add_lit] at this) k x hk
  simpa using this

end Go.Proofs.Ytdpmkfjomkemhaa
