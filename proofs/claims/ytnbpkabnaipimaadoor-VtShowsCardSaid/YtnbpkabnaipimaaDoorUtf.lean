/- Contracts of what layer 1 tells: which runes are right (both sides), the bytes of any runes (the reference's). Condition: the runes lie in memory. -/
import Derived.Test.YtnbpkabnaipimaaDoorWidth
import Derived.Shelf.Small.Utf8
import Derived.Shelf.Utf8.AppendRunePlain
namespace Go.Proofs.YtnbpkabnaipimaaDoor
open Go Go.RowKit

theorem validRune (r : Int) (w : World) :
    Calls Tryd.prog 43 #[.int .i32 r] w fun e w' => e = .returned (.bool (Lib.validRune r)) ∧ w = w' := by
  go_enter Tryd.func43, Tryd.ntmps43
  go_wp2
  all_goals (go_ret; refine ⟨ret_bool ?_, rfl⟩; unfold Lib.validRune; rw [Bool.eq_iff_iff]; simp; omega)

theorem right (r : Int) (w : World) :
    Calls Tryd.prog 36 #[.int .i32 r] w fun e w' => e = .returned (.bool (Lib.validRune r)) ∧ w = w' := by
  go_enter Tryd.func36, Tryd.ntmps36
  go_wp2_with (go_at_call 43; refine (validRune _ _).mono ?_; rintro e w' ⟨rfl, rfl⟩)
  go_ret
  exact ⟨rfl, rfl⟩


theorem Tryd.info5 : (Tryd.prog.info? 5).map (fun i => (i.zero, i.size, i.bytes)) = some (some (.int .u8 0), 1, 1) := by kernel_rfl

/-- The bytes of runes, as cells. -/
def encCells (zs : List Int) : List Value := zs.flatMap Lib.runeCells

theorem encCells_snoc (zs : List Int) (k : Nat) (z : Int) (h : zs[k]? = some z) : encCells (zs.take (k + 1)) = encCells (zs.take k) ++ Lib.runeCells z := by
  unfold encCells
  rw [List.take_add_one, h]
  simp

theorem encCells_le (zs : List Int) : (encCells zs).length ≤ 4 * zs.length := by
  induction zs with
  | nil => simp [encCells]
  | cons z r ih =>
    have := (Lib.runeCells_le z).2
    simp only [encCells, List.flatMap_cons, List.length_append, List.length_cons] at ih ⊢
    omega

theorem runeCells_odd {r : Int} (h : Lib.validRune r = false) : Lib.runeCells 65533 = Lib.runeCells r := by
  unfold Lib.validRune at h
  simp only [decide_eq_false_iff_not] at h
  unfold Lib.runeCells
  rw [Lib.encodeRuneZ_bad (r := r) (by omega)]
  rfl

/-- A slice of integers of one kind: what lies in memory. Of an empty one nothing is known but that it is empty. -/
def SeqAt (k : IntKind) (w : World) (a : Option Addr) (n : Nat) (zs : List Int) : Prop :=
  zs.length = n ∧ (n = 0 ∨ ∃ b off, a = some ⟨b, off, none⟩ ∧ b < w.heap.size ∧ ∀ j z, zs[j]? = some z → w.cell? ⟨b, off + j, none⟩ = some (.int k z))

theorem SeqAt.below {k : IntKind} {w w' : World} {a : Option Addr} {n : Nat} {zs : List Int} (h : SeqAt k w a n zs) (hb : Below w.heap.size w w') : SeqAt k w' a n zs := by
  refine ⟨h.1, ?_⟩
  rcases h.2 with h0 | ⟨b, off, rfl, hlt, hc⟩
  · exact .inl h0
  · exact .inr ⟨b, off, rfl, Nat.lt_of_lt_of_le hlt hb.size, fun j z hz => (hb.cell (by exact hlt)).trans (hc j z hz)⟩

theorem valid_iff {r : Int} (h : Lib.validRune r = true) : (0 ≤ r ∧ r < 55296) ∨ (57343 < r ∧ r ≤ 1114111) := by
  unfold Lib.validRune at h
  simpa using h


theorem new_cells (w : World) (cs : List Value) (e : TypeId) : ∀ j u, cs[j]? = some u → (w.alloc (.cells cs.toArray e)).cell? ((⟨w.heap.size, 0, none⟩ : Addr).add j) = some u := by
  intro j u hj
  have hadd : (⟨w.heap.size, 0, none⟩ : Addr).add j = ⟨w.heap.size, j, none⟩ := by unfold Addr.add; split <;> simp_all
  rw [hadd, cell_of_row _ w.heap.size j cs.toArray e (0, 0) (heap_alloc_new w _)]
  simpa using hj
theorem runeCells_one (r : Int) : ∀ u ∈ Lib.runeCells r, u.oneCell' = true := by
  intro u hu
  unfold Lib.runeCells at hu
  obtain ⟨x, _, rfl⟩ := List.mem_map.1 hu
  rfl



end Go.Proofs.YtnbpkabnaipimaaDoor
