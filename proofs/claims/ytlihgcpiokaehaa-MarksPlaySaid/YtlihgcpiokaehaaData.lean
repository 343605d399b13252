/- What marks are in memory: ranges one behind the other, each of five cells; what stays when other memory is written. No walk. -/
import Derived.Test.YtlihgcpiokaehaaMoved
import Derived.Lib.SliceRun
import Derived.Laws.AppendOwnNone
import Derived.ArgAppend
import Derived.Deep.OwnRows
namespace Go.Proofs.Ytlihgcpiokaehaa
open Go Go.RowKit

/-- A range with its number. -/
structure Rg where
  f : Int
  t : Int
  l : Bool
  r : Bool
  i : Int

def Rg.cells (x : Rg) : List Value := [.int .i64 x.f, .int .i64 x.t, .bool x.l, .bool x.r, .int .i64 x.i]
def flat (rs : List Rg) : List Value := rs.flatMap Rg.cells
theorem flat_cons (x : Rg) (r : List Rg) : flat (x :: r) = x.cells ++ flat r := by simp [flat]
theorem flat_append (l m : List Rg) : flat (l ++ m) = flat l ++ flat m := by simp [flat]
theorem flat_one (x : Rg) : flat [x] = x.cells := by simp [flat]
theorem flat_nil : flat [] = [] := rfl
theorem cells_len (x : Rg) : x.cells.length = 5 := rfl
theorem flat_len (rs : List Rg) : (flat rs).length = rs.length * 5 := by
  induction rs with
  | nil => rfl
  | cons x r ih => rw [flat_cons, List.length_append, ih, List.length_cons, Nat.add_mul]; simp [Rg.cells]; omega
theorem flat_get (rs : List Rg) (k i : Nat) (x : Rg) (h : rs[k]? = some x) (hi : i < 5) : (flat rs)[k * 5 + i]? = x.cells[i]? := by
  induction rs generalizing k with
  | nil => cases h
  | cons y r ih =>
    cases k with
    | zero =>
      cases h
      rw [flat_cons, List.getElem?_append_left (by simp [Rg.cells]; omega), Nat.zero_mul, Nat.zero_add]
    | succ k =>
      rw [flat_cons, List.getElem?_append_right (by simp [Rg.cells]; omega), show (k + 1) * 5 + i - y.cells.length = k * 5 + i by simp [Rg.cells]; omega]
      exact ih k (by simpa using h)
theorem flat_take (rs : List Rg) (k : Nat) : flat (rs.take k) = (flat rs).take (k * 5) := by
  induction rs generalizing k with
  | nil => simp [flat]
  | cons x r ih =>
    cases k with
    | zero => simp [flat]
    | succ k =>
      rw [List.take_succ_cons, flat_cons, flat_cons, ih, List.take_append, List.take_of_length_le (l := x.cells) (by rw [cells_len]; omega), show (k + 1) * 5 - x.cells.length = k * 5 by rw [cells_len]; omega]
theorem flat_drop (rs : List Rg) (k : Nat) : flat (rs.drop k) = (flat rs).drop (k * 5) := by
  induction rs generalizing k with
  | nil => simp [flat]
  | cons x r ih =>
    cases k with
    | zero => simp [flat]
    | succ k =>
      rw [List.drop_succ_cons, flat_cons, ih, List.drop_append, List.drop_of_length_le (l := x.cells) (by rw [cells_len]; omega), show (k + 1) * 5 - x.cells.length = k * 5 by rw [cells_len]; omega]
      rfl
theorem flat_cells_one (rs : List Rg) : ∀ u ∈ flat rs, u.oneCell' = true := by
  intro u hu
  simp only [flat, List.mem_flatMap, Rg.cells] at hu
  obtain ⟨x, _, h⟩ := hu
  simp at h
  rcases h with rfl | rfl | rfl | rfl | rfl <;> rfl

/-- Ranges in memory, in a block of type e. -/
def RowAt (e : TypeId) (w : World) (a : Option Addr) (n : Nat) (rs : List Rg) : Prop :=
  rs.length = n ∧ (n = 0 ∨ ∃ b off, a = some ⟨b, off, none⟩ ∧ (∃ cur fr, w.heap[b]? = some (.cells cur e fr)) ∧ ∀ j u, (flat rs)[j]? = some u → w.cell? ⟨b, off + j, none⟩ = some u)

theorem lt_of_block {w : World} {k : Nat} {o : Obj} (h : w.heap[k]? = some o) : k < w.heap.size := (Array.getElem?_eq_some_iff.1 h).1

theorem RowAt.below {e : TypeId} {w w' : World} {a : Option Addr} {n : Nat} {rs : List Rg} (h : RowAt e w a n rs) (hb : Below w.heap.size w w') : RowAt e w' a n rs := by
  refine ⟨h.1, ?_⟩
  rcases h.2 with h0 | ⟨b, off, rfl, ⟨cur, fr, hh⟩, hc⟩
  · exact .inl h0
  · have hlt := lt_of_block hh
    exact .inr ⟨b, off, rfl, ⟨cur, fr, (hb.block b hlt).trans hh⟩, fun j z hz => (hb.cell (by exact hlt)).trans (hc j z hz)⟩

/-- The cells of one range, as the walk meets them. -/
theorem rgCells {w : World} {b off : Nat} {rs : List Rg} (hc : ∀ j u, (flat rs)[j]? = some u → w.cell? ⟨b, off + j, none⟩ = some u) (k : Nat) (x : Rg) (h : rs[k]? = some x) :
    w.cell? ⟨b, off + k * 5, none⟩ = some (.int .i64 x.f) ∧ w.cell? ⟨b, off + k * 5 + 1, none⟩ = some (.int .i64 x.t) ∧ w.cell? ⟨b, off + k * 5 + 2, none⟩ = some (.bool x.l) ∧ w.cell? ⟨b, off + k * 5 + 3, none⟩ = some (.bool x.r) ∧ w.cell? ⟨b, off + k * 5 + 4, none⟩ = some (.int .i64 x.i) := by
  refine ⟨?_, ?_, ?_, ?_, ?_⟩
  · exact hc (k * 5) _ ((flat_get rs k 0 x h (by omega)).trans rfl)
  · exact hc (k * 5 + 1) _ ((flat_get rs k 1 x h (by omega)).trans rfl)
  · exact hc (k * 5 + 2) _ ((flat_get rs k 2 x h (by omega)).trans rfl)
  · exact hc (k * 5 + 3) _ ((flat_get rs k 3 x h (by omega)).trans rfl)
  · exact hc (k * 5 + 4) _ ((flat_get rs k 4 x h (by omega)).trans rfl)

theorem own_below {w w' : World} {B e size : Nat} {v : Value} {n : Nat} {xs : List Value} (h : w.ownsRow B e size v n xs) (hb : Below w.heap.size w w') : w'.ownsRow B e size v n xs := by
  refine ⟨h.1, ?_⟩
  rcases h.2 with h0 | ⟨g, cap, cur, rfl, hB, hg, hr⟩
  · exact .inl h0
  · exact .inr ⟨g, cap, cur, rfl, hB, (hb.block g (Array.getElem?_eq_some_iff.1 hg).1).trans hg, hr⟩

theorem own_mono {w : World} {B B' e size : Nat} {v : Value} {n : Nat} {xs : List Value} (h : w.ownsRow B e size v n xs) (hb : B' ≤ B) : w.ownsRow B' e size v n xs := by
  refine ⟨h.1, ?_⟩
  rcases h.2 with h0 | ⟨g, cap, cur, rfl, hB, hr⟩
  · exact .inl h0
  · exact .inr ⟨g, cap, cur, rfl, Nat.le_trans hb hB, hr⟩

theorem own_row {w : World} {B e n : Nat} {v : Value} {rs : List Rg} (h : w.ownsRow B e 5 v n (flat rs)) : ∃ a c, v = .slice a n c ∧ n ≤ c ∧ (a = none → n = 0 ∧ c = 0) ∧ RowAt e w a n rs := by
  have hl := h.1
  rw [flat_len] at hl
  have hl' : rs.length = n := by omega
  rcases h.2 with ⟨rfl, rfl⟩ | ⟨g, cap, cur, rfl, hB, hg, hcap, _⟩
  · exact ⟨none, 0, rfl, Nat.le_refl _, fun _ => ⟨rfl, rfl⟩, hl', .inl rfl⟩
  · refine ⟨_, cap, rfl, hcap, fun h => (by cases h), hl', .inr ⟨g, 0, rfl, ⟨cur, _, hg⟩, fun j u hu => ?_⟩⟩
    have := h.cells (g := g) rfl j u hu
    rwa [Addr.add_lit] at this

/-- The two cells of the marks. -/
def mk2 (v : Value) (last : Int) : Nat → Value := fun i => if i = 0 then v else .int .i64 last

/-- May this range stand in the list? -/
def Rg.good (last : Nat) (x : Rg) : Prop := 0 ≤ x.f ∧ x.f ≤ x.t ∧ x.t ≤ 2147483648 ∧ 1 ≤ x.i ∧ x.i ≤ last

/-- Marks in memory: their object in the block mb, the list in a block of the call's own. -/
structure MarksAt (w : World) (B mb : Nat) (rs : List Rg) (last : Nat) : Prop where
  row : ∃ v, w.rowIs mb 67 2 (mk2 v last) ∧ w.ownsRow B 69 5 v rs.length (flat rs)
  len : rs.length ≤ 60
  good : ∀ x ∈ rs, x.good last
  sorted : rs.Pairwise (fun x y => x.i < y.i)

theorem MarksAt.below {w w' : World} {B mb : Nat} {rs : List Rg} {last : Nat} (h : MarksAt w B mb rs last) (hb : Below w.heap.size w w') : MarksAt w' B mb rs last := by
  obtain ⟨⟨v, h1, h2⟩, h3, h4, h5⟩ := h
  exact ⟨⟨v, h1.of_block (hb.block mb h1.lt), own_below h2 hb⟩, h3, h4, h5⟩
theorem MarksAt.lt {w : World} {B mb : Nat} {rs : List Rg} {last : Nat} (h : MarksAt w B mb rs last) : mb < w.heap.size := by
  obtain ⟨v, h1, _⟩ := h.row
  exact h1.lt

/-- As the walk meets them: the list's slice in the object's first cell, the ranges in a row. -/
theorem MarksAt.opened {w : World} {B mb : Nat} {rs : List Rg} {last : Nat} (h : MarksAt w B mb rs last) :
    ∃ a c, w.rowIs mb 67 2 (mk2 (.slice a rs.length c) last) ∧ w.ownsRow B 69 5 (.slice a rs.length c) rs.length (flat rs) ∧ rs.length ≤ c ∧ (a = none → rs.length = 0 ∧ c = 0) ∧ RowAt 69 w a rs.length rs := by
  obtain ⟨v, h1, h2⟩ := h.row
  obtain ⟨a, c, rfl, hc, hn, hr⟩ := own_row h2
  exact ⟨a, c, h1, h2, hc, hn, hr⟩

def ints64 (zs : List Int) : List Value := zs.map fun z => Value.int .i64 z
theorem ints64_len (zs : List Int) : (ints64 zs).length = zs.length := by simp [ints64]
theorem new_cells (w : World) (cs : List Value) (e : TypeId) : ∀ j u, cs[j]? = some u → (w.alloc (.cells cs.toArray e)).cell? ((⟨w.heap.size, 0, none⟩ : Addr).add j) = some u := by
  intro j u hj
  have hadd : (⟨w.heap.size, 0, none⟩ : Addr).add j = ⟨w.heap.size, j, none⟩ := by unfold Addr.add; split <;> simp_all
  rw [hadd, cell_of_row _ w.heap.size j cs.toArray e (0, 0) (heap_alloc_new w _)]
  simpa using hj
theorem new_one (w : World) (x : Int) : ∀ j u, [Value.int .i64 x][j]? = some u → (w.alloc (Obj.cells #[Value.int .i64 x] 3)).cell? ((⟨w.heap.size, 0, none⟩ : Addr).add j) = some u := new_cells w [Value.int .i64 x] 3
end Go.Proofs.Ytlihgcpiokaehaa
