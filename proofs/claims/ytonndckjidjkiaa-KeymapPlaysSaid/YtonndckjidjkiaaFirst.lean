/- The table that a map has at first, on both sides. No conditions. -/
import Derived.Test.YtonndckjidjkiaaData
import Derived.Great.BuildSlice
import Derived.KernelRfl
namespace Go.Proofs.Ytonndckjidjkiaa
open Go Go.RowKit

def first50 : List Bn := [⟨1, 97, 4, 15⟩, ⟨1, 101, 4, 16⟩, ⟨1, 98, 4, 11⟩, ⟨1, 102, 4, 12⟩, ⟨1, 98, 2, 13⟩, ⟨1, 102, 2, 14⟩, ⟨8, 0, 0, 11⟩, ⟨9, 0, 0, 12⟩, ⟨6, 0, 0, 17⟩, ⟨7, 0, 0, 18⟩, ⟨10, 0, 0, 15⟩, ⟨11, 0, 0, 16⟩, ⟨8, 0, 4, 13⟩, ⟨9, 0, 4, 14⟩, ⟨10, 0, 4, 19⟩, ⟨11, 0, 4, 20⟩, ⟨1, 60, 2, 19⟩, ⟨1, 62, 2, 20⟩, ⟨8, 0, 1, 31⟩, ⟨9, 0, 1, 32⟩, ⟨8, 0, 5, 33⟩, ⟨9, 0, 5, 34⟩, ⟨10, 0, 1, 35⟩, ⟨11, 0, 1, 36⟩, ⟨6, 0, 1, 37⟩, ⟨7, 0, 1, 38⟩, ⟨4, 0, 0, 51⟩, ⟨1, 100, 4, 52⟩, ⟨5, 0, 0, 52⟩, ⟨1, 100, 2, 53⟩, ⟨1, 107, 4, 54⟩, ⟨1, 116, 4, 55⟩, ⟨1, 121, 4, 56⟩, ⟨1, 122, 4, 61⟩, ⟨1, 120, 4, 62⟩, ⟨3, 0, 0, 71⟩, ⟨3, 0, 1, 72⟩, ⟨1, 110, 2, 73⟩, ⟨1, 112, 2, 74⟩, ⟨6, 0, 2, 81⟩, ⟨7, 0, 2, 82⟩, ⟨12, 0, 0, 83⟩, ⟨1, 103, 4, 83⟩, ⟨1, 112, 4, 91⟩, ⟨1, 110, 4, 92⟩, ⟨1, 114, 4, 93⟩, ⟨2, 0, 0, 3⟩, ⟨2, 0, 4, 2⟩, ⟨2, 0, 2, 2⟩, ⟨1, 99, 4, 4⟩]
theorem first_len : first50.length = 50 := by kernel_rfl

theorem Try.info39 : (Try.prog.info? 39).map (fun i => (i.zero, i.size, i.bytes)) = some (some (.agg #[.int .i64 0, .int .i32 0, .int .i64 0, .int .i64 0]), 4, 32) := by kernel_rfl
theorem Try.info47 : (Try.prog.info? 47).map (fun i => (i.zero, i.size, i.bytes)) = some (some (.agg #[.int .i64 0, .int .i32 0, .int .i64 0, .int .i64 0]), 4, 32) := by kernel_rfl

set_option maxHeartbeats 4000000 in
set_option maxRecDepth 100000 in
theorem refFirst (w : World) : Calls Try.prog 8 #[] w fun e w' => e = .returned (.slice (some ⟨w.heap.size, 0, none⟩) 50 50) ∧ w' = w.alloc (.cells (flat first50).toArray 39) := by
  obtain ⟨i0, hi, hz0, hz1, hz2⟩ := info_parts Try.info39
  go_enter Try.func8, Try.ntmps8
  go_wp2_with (refine wpList_buildSlice rfl 28 39 50 _ rfl (flat first50).toArray i0 (.agg #[.int .i64 0, .int .i32 0, .int .i64 0, .int .i64 0]) Try.underlying28 hi hz0 (by rw [hz1]; decide) (by rw [hz1]; decide) (by rw [hz1]; kernel_rfl) ?_)
  go_ret
  exact ⟨rfl, rfl⟩

theorem results_cell1 {fn : Func} {p : Tmp} {ty : TypeId} (h : fn.results = #[.cell p ty]) (tmps : Array Value) (P : Program) (w : World) :
    (results fn tmps).run P w = ((asAddr (tmps.getD p undef)).run P w).andThen fun a w₁ => (loadVar ty a).run P w₁ := by
  simp only [results, h]
  simp [Sem.run_bind, Result.andThen]
theorem char (r m c : Int) (w : World) : Calls Try.prog 21 #[.int .i32 r, .int .i64 m, .int .i64 c] w fun e w' => e = .returned (.agg #[.int .i64 1, .int .i32 r, .int .i64 m, .int .i64 c]) ∧ Below w.heap.size w w' := by
  go_enter Try.func21, Try.ntmps21
  go_wp2
  refine bodyPost_ret (v := .agg #[.int .i64 1, .int .i32 r, .int .i64 m, .int .i64 c]) ?_ rfl ⟨rfl, (Below.refl _ _).alloc (Nat.le_refl _) _⟩
  rw [results_cell1 rfl]
  go_simp
theorem named (k m c : Int) (w : World) : Calls Try.prog 22 #[.int .i64 k, .int .i64 m, .int .i64 c] w fun e w' => e = .returned (.agg #[.int .i64 k, .int .i32 0, .int .i64 m, .int .i64 c]) ∧ Below w.heap.size w w' := by
  go_enter Try.func22, Try.ntmps22
  go_wp2
  refine bodyPost_ret (v := .agg #[.int .i64 k, .int .i32 0, .int .i64 m, .int .i64 c]) ?_ rfl ⟨rfl, (Below.refl _ _).alloc (Nat.le_refl _) _⟩
  rw [results_cell1 rfl]
  go_simp

set_option maxHeartbeats 8000000 in
set_option maxRecDepth 100000 in
theorem table (w : World) : Calls Try.prog 15 #[] w fun e w' => ∃ g, w.heap.size ≤ g ∧ e = .returned (.slice (some ⟨g, 0, none⟩) 50 50) ∧ Below w.heap.size w w' ∧ w'.heap[g]? = some (.cells (flat first50).toArray 47 (0, 0)) := by
  obtain ⟨i0, hi, hz0, hz1, hz2⟩ := info_parts Try.info47
  have S := Lib.hid (Below.refl w.heap.size w)
  go_enter Try.func15, Try.ntmps15
  go_wp2_with (first
    | (go_at_call 21; (with_reducible refine (char _ _ _ _).mono ?_); rintro e w1 ⟨rfl, hb⟩; replace S := Lib.hid (S.out.trans (hb.mono S.out.size)); clear hb)
    | (go_at_call 22; (with_reducible refine (named _ _ _ _).mono ?_); rintro e w1 ⟨rfl, hb⟩; replace S := Lib.hid (S.out.trans (hb.mono S.out.size)); clear hb)
    | (refine wpList_buildSlice rfl 42 47 50 _ rfl (flat first50).toArray i0 (.agg #[.int .i64 0, .int .i32 0, .int .i64 0, .int .i64 0]) Try.underlying42 hi hz0 (by rw [hz1]; decide) (by rw [hz1]; decide) (by rw [hz1]; kernel_rfl) ?_))
  go_ret
  exact ⟨_, S.out.size, rfl, S.out.alloc S.out.size _, heap_alloc_new _ _⟩
end Go.Proofs.Ytonndckjidjkiaa
