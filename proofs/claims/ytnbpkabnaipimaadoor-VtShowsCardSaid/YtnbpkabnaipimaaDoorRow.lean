/- The contract of the reference's Row: the bytes of a row, behind bytes of the caller's own. Conditions: cells that may be painted, in memory; a row from 0 to 98. -/
import Derived.Test.YtnbpkabnaipimaaDoorNumber
namespace Go.Proofs.YtnbpkabnaipimaaDoor
open Go Go.RowKit

def mayR (c : Int) : Prop := c = 0 ∨ Lib.validRune c = true
theorem mayR_in {c : Int} (h : mayR c) : -2147483648 ≤ c ∧ c ≤ 2147483647 := by
  rcases h with rfl | h
  · decide
  · have := valid_iff h
    omega
theorem digits_le (n : Int) : (digits n).length ≤ 2 := by
  unfold digits
  split <;> simp
theorem encCells_one (c : Int) : encCells [c] = byV (Lib.encodeRuneZ c) := by simp [encCells, Lib.runeCells, byV]
theorem enc_le (c : Int) : (Lib.encodeRuneZ c).length ≤ 4 := by
  have := (Lib.runeCells_le c).2
  simpa [Lib.runeCells] using this
theorem styleB_le (s : Int) : (styleB s).length ≤ 10 := by
  unfold styleB
  simp only [List.length_append, List.length_cons, List.length_nil]
  repeat' split
  all_goals simp
theorem rowB_le (last : Option Int) (l : List Cl) : (rowB last l).length ≤ 14 * l.length := by
  induction l generalizing last with
  | nil => simp [rowB_nil]
  | cons c t ih =>
    have h1 := enc_le c.r
    have h2 := styleB_le c.s
    by_cases h : c.r = 0
    · rw [rowB_zero h]; have := ih last; simp only [List.length_cons]; omega
    · by_cases hs : last = some c.s
      · rw [rowB_same h hs]; have := ih (some c.s); simp only [List.length_cons, List.length_append]; omega
      · rw [rowB_new h hs]; have := ih (some c.s); simp only [List.length_cons, List.length_append]; omega
def lastI (o : Option Int) : Int := o.getD (-1)
theorem rowB_snoc {last : Option Int} {l : List Cl} {i : Nat} {c : Cl} (h : l[i]? = some c) : rowB last (l.take (i + 1)) = rowB last (l.take i) ++ rowB (lastS last (l.take i)) [c] := by
  rw [List.take_add_one, h, Option.toList_some, rowB_append]
theorem lastS_snoc {last : Option Int} {l : List Cl} {i : Nat} {c : Cl} (h : l[i]? = some c) : lastS last (l.take (i + 1)) = if c.r = 0 then lastS last (l.take i) else some c.s := by
  rw [List.take_add_one, h, Option.toList_some, lastS_append]; rfl


/-- What is behind the bytes of the caller's own. -/
theorem own_as {w : World} {B n : Nat} {v : Value} {xs ys : List Value} (h : w.ownsRow B 5 1 v n xs) (e : xs = ys) : w.ownsRow B 5 1 v ys.length ys := by
  have := h.1
  subst e
  rw [this]
  simpa using h
theorem keep_block {B m b t : Nat} {v : Value} {xs : List Value} {w w2 : World} {o : Obj} {cs : Array Value} {fr : Nat × Nat} (hO : w.ownsRow B 5 1 v m xs) (hb : w.heap[b]? = some (Obj.cells cs t fr)) (ht : t ≠ 5) (hg : (w.alloc o).grownBy w2 v.ownBlock) : w2.heap[b]? = some (Obj.cells cs t fr) := by
  have hlt := lt_of_block hb
  have h1 : (w.alloc o).heap[b]? = some (Obj.cells cs t fr) := by rw [((Below.refl _ _).alloc (Nat.le_refl _) o : Below w.heap.size w (w.alloc o)).block b hlt]; exact hb
  rw [hg.block b (lt_of_block h1) fun e => ?_]
  · exact h1
  · rcases hO.2 with ⟨rfl, _⟩ | ⟨g, cap, cur, rfl, _, hh, _⟩
    · cases e
    · simp only [Value.ownBlock, Option.some.injEq] at e
      subst e
      rw [hb] at hh
      simp at hh
      exact ht hh.2.1
theorem at_block {b t : Nat} {w : World} {x s : Int} {fr : Nat × Nat} (hb : w.heap[b]? = some (Obj.cells #[.int .i32 x, .int .i64 s] t fr)) : w.cell? ⟨b, 0, none⟩ = some (.int .i32 x) ∧ w.cell? ⟨b, 1, none⟩ = some (.int .i64 s) :=
  ⟨by rw [cell_of_row w b 0 _ t fr hb]; rfl, by rw [cell_of_row w b 1 _ t fr hb]; rfl⟩
theorem grow_below0 {B m : Nat} {v : Value} {xs : List Value} {w w2 : World} (hO : w.ownsRow B 5 1 v m xs) (hB : B ≤ w.heap.size) (hg : w.grownBy w2 v.ownBlock) : Below B w w2 :=
  (Below.refl _ _).grown hg hB (fun k hk => (hO.lt k hk).1)

/-- The row, as far as it is written. -/
def sofar (xs : List Value) (r : Int) (l : List Cl) (k : Nat) : List Value := xs ++ byV (headB r ++ rowB none (l.take k))
theorem sofar_le (xs : List Value) (r : Int) (l : List Cl) (k : Nat) : (sofar xs r l k).length ≤ xs.length + 7 + 14 * k := by
  have h1 := rowB_le none (l.take k)
  have h2 := digits_le (r + 1)
  have h3 := List.length_take_le k l
  simp only [sofar, List.length_append, byV_len, headB, List.length_cons, List.length_nil]
  omega
theorem sofar_zero {xs : List Value} {r : Int} {l : List Cl} {k : Nat} {c : Cl} (h : l[k]? = some c) (h0 : c.r = 0) : sofar xs r l (k + 1) = sofar xs r l k := by
  unfold sofar
  rw [rowB_snoc h, rowB_zero h0, rowB_nil, List.append_nil]
theorem sofar_same {xs : List Value} {r : Int} {l : List Cl} {k : Nat} {c : Cl} (h : l[k]? = some c) (h0 : c.r ≠ 0) (hs : lastS none (l.take k) = some c.s) : sofar xs r l k ++ byV (Lib.encodeRuneZ c.r) = sofar xs r l (k + 1) := by
  unfold sofar
  rw [rowB_snoc h, rowB_same h0 hs, rowB_nil, List.append_nil]
  simp only [byV_append, List.append_assoc]
theorem sofar_new {xs : List Value} {r : Int} {l : List Cl} {k : Nat} {c : Cl} (h : l[k]? = some c) (h0 : c.r ≠ 0) (hs : lastS none (l.take k) ≠ some c.s) : sofar xs r l k ++ byV (styleB c.s) ++ byV (Lib.encodeRuneZ c.r) = sofar xs r l (k + 1) := by
  unfold sofar
  rw [rowB_snoc h, rowB_new h0 hs, rowB_nil, List.append_nil]
  simp only [byV_append, List.append_assoc]
theorem last_ne {o : Option Int} {s : Int} (h : o ≠ some s) (hs : 0 ≤ s) : ¬ s = lastI o := by
  cases o with
  | none => simp [lastI]; omega
  | some x => simp [lastI] at h ⊢; omega

end Go.Proofs.YtnbpkabnaipimaaDoor
