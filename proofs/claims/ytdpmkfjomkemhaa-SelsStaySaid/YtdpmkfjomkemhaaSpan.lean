/- Contracts of the program's Span, of cmp.Compare and cmp.Or at ints, and of the closure by which the program sorts. Conditions: none. -/
import Derived.Test.YtdpmkfjomkemhaaSort
import Derived.Test.YtdpmkfjomkemhaaPost
import Derived.Deep.RegionHeld3
namespace Go.Proofs.Ytdpmkfjomkemhaa
open Go Go.RowKit

theorem ret_span {a b c d : Int} (h : a = c) (h' : b = d) : Ending.returned (.agg #[.int .i64 a, .int .i64 b]) = .returned (.agg #[.int .i64 c, .int .i64 d]) := by rw [h, h']
theorem Sl.lo_min (s : Sl) : min s.a s.h = s.lo := by unfold Sl.lo; split <;> omega
theorem Sl.hi_max (s : Sl) : max s.a s.h = s.hi := by unfold Sl.hi; split <;> omega
/-- A result that lies in a cell. -/
theorem results_cell1 {fn : Func} {p : Tmp} {ty : TypeId} (h : fn.results = #[.cell p ty]) (tmps : Array Value) (P : Program) (w : World) :
    (results fn tmps).run P w = ((asAddr (tmps.getD p undef)).run P w).andThen fun a w₁ => (loadVar ty a).run P w₁ := by
  simp only [results, h]
  simp [Sem.run_bind, Result.andThen]
theorem spanAt (s : Sl) (w : World) : Calls Try.prog 11 #[.agg #[.int .i64 s.a, .int .i64 s.h]] w fun e w' => e = .returned (.agg #[.int .i64 s.lo, .int .i64 s.hi]) ∧ w' = (w.alloc (Obj.cells #[.int .i64 s.a, .int .i64 s.h] 24)).alloc (Obj.cells #[.int .i64 s.lo, .int .i64 s.hi] 30) := by
  rw [← s.lo_min, ← s.hi_max]
  obtain ⟨a, h⟩ := s
  simp only
  go_enter Try.func11, Try.ntmps11
  go_wp2
  (try simp only [Exit.inBlock, Exit.then])
  refine bodyPost_ret (v := .agg #[.int .i64 (min a h), .int .i64 (max a h)]) ?_ rfl ⟨rfl, ?_⟩
  · rw [results_cell1 rfl]
    go_simp
  · rfl
theorem isNaN (a : Int) (w : World) : Calls Try.prog 29 #[.int .i64 a] w fun e w' => e = .returned (.bool false) ∧ w' = w := by
  go_enter Try.func29, Try.ntmps29
  go_wp2
  all_goals (go_ret; exact ⟨ret_bool (by simp), rfl⟩)
theorem compare (a b : Int) (w : World) : Calls Try.prog 25 #[.int .i64 a, .int .i64 b] w fun e w' => e = .returned (.int .i64 (cmpI a b)) ∧ w' = w := by
  go_enter Try.func25, Try.ntmps25
  go_wp2_with (go_at_call 29; (with_reducible refine (isNaN _ _).mono ?_); rintro e w' ⟨rfl, rfl⟩)
  all_goals (go_ret; refine ⟨ret_int ?_, rfl⟩; unfold cmpI; repeat' split)
  all_goals omega
/-- cmp.Or of two. -/
theorem or2 (g : Nat) (x y r : Int) (w : World) (hr : r = if x = 0 then y else x) (h0 : w.cell? ⟨g, 0, none⟩ = some (.int .i64 x)) (h1 : w.cell? ⟨g, 1, none⟩ = some (.int .i64 y)) : Calls Try.prog 24 #[.slice (some ⟨g, 0, none⟩) 2 2] w fun e w' => e = .returned (.int .i64 r) ∧ w' = w := by
  have R := Lib.hid hr
  clear hr
  go_enter Try.func24, Try.ntmps24
  go_wp2
  go_loopw [8] (fun i wr => ∃ k : Nat, k ≤ 2 ∧ i = .int .i64 k ∧ wr = w ∧ (0 < k → x = 0) ∧ (1 < k → y = 0)) (fun i _ => 2 - (RowKit.intOf i).toNat)
  case atStart => exact ⟨0, by omega, rfl, rfl, by omega, by omega⟩
  case round =>
    obtain ⟨k, hk, rfl, rfl, hx, hy⟩ := hrel
    match k, hk with
    | 0, _ =>
      clear hx hy
      by_cases hx0 : x = 0
      · have b0 : (x != 0) = false := by simp [hx0]
        have HX := Lib.hid hx0
        clear hx0
        have b1 : (0 : Int) < 2 := by omega
        go_wp2
        go_roundw
        case rel => exact ⟨1, by omega, by go_num, (by first | rfl | trivial), fun _ => HX.out, by omega⟩
        case measure => (simp [RowKit.intOf]; try omega)
      · have b0 : (x != 0) = true := by simp [hx0]
        have HX := Lib.hid hx0
        clear hx0
        go_wp2
        go_ret
        exact ⟨ret_int (by rw [R.out, if_neg HX.out]), rfl⟩
    | 1, _ =>
      have HX := Lib.hid (hx (by omega))
      clear hx hy
      by_cases hy0 : y = 0
      · have b0 : (y != 0) = false := by simp [hy0]
        have HY := Lib.hid hy0
        clear hy0
        go_wp2
        go_roundw
        case rel => exact ⟨2, by omega, by go_num, (by first | rfl | trivial), fun _ => HX.out, fun _ => HY.out⟩
        case measure => (simp [RowKit.intOf]; try omega)
      · have b0 : (y != 0) = true := by simp [hy0]
        clear hy0
        go_wp2
        go_ret
        exact ⟨ret_int (by rw [R.out, if_pos HX.out]), rfl⟩
    | 2, _ =>
      have HX := Lib.hid (hx (by omega))
      have HY := Lib.hid (hy (by omega))
      clear hx hy
      go_wp2
      go_ret
      exact ⟨ret_int (by rw [R.out, if_pos HX.out, HY.out]), rfl⟩

end Go.Proofs.Ytdpmkfjomkemhaa
