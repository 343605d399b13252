/- Contracts of the small functions of layer 1: which runes are right, told by the program and by the reference. No conditions. -/
import Derived.Test.YtcpfillmdkhjlaaDoorChecked
import Derived.WalkKit
import Derived.Lib.Small
namespace Go.Proofs.YtcpfillmdkhjlaaDoor
open Go Go.RowKit

theorem ret_bool {a b : Bool} (h : a = b) : Ending.returned (.bool a) = .returned (.bool b) := by rw [h]

theorem validRune (r : Int) (w : World) :
    Calls Tryd.prog 17 #[.int .i32 r] w fun e w' => e = .returned (.bool (Lib.validRune r)) ∧ w = w' := by
  go_enter Tryd.func17, Tryd.ntmps17
  go_wp2
  all_goals (go_ret; refine ⟨ret_bool ?_, rfl⟩; unfold Lib.validRune; rw [Bool.eq_iff_iff]; simp; omega)

theorem right (r : Int) (w : World) :
    Calls Tryd.prog 7 #[.int .i32 r] w fun e w' => e = .returned (.bool (Lib.validRune r)) ∧ w = w' := by
  go_enter Tryd.func7, Tryd.ntmps7
  go_wp2_with (go_at_call 17; refine (validRune _ _).mono ?_; rintro e w' ⟨rfl, rfl⟩)
  go_ret
  exact ⟨rfl, rfl⟩

theorem refRight (r : Int) (w : World) :
    Calls Tryd.prog 8 #[.int .i32 r] w fun e w' => e = .returned (.bool (Lib.validRune r)) ∧ w = w' := by
  go_enter Tryd.func8, Tryd.ntmps8
  go_wp2
  all_goals (go_ret; refine ⟨ret_bool ?_, rfl⟩; unfold Lib.validRune; rw [Bool.eq_iff_iff]; simp; omega)
end Go.Proofs.YtcpfillmdkhjlaaDoor
