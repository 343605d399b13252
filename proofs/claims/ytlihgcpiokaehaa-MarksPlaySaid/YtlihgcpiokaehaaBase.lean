/- Contracts of the functions over one range and one edit: which are right, where a place moves, where a range moves; the program's and the reference's. Conditions: the numbers are not too large. -/
import Derived.Test.YtlihgcpiokaehaaChecked
import Derived.WalkKit
import Derived.Lib.Small
import Derived.Lib.Hide
import Derived.Deep.QuietTactic
import Derived.BigQuiet
import Derived.WalkSmall
import Derived.Laws.ResultCell
namespace Go.Proofs.Ytlihgcpiokaehaa
open Go Go.RowKit

theorem ret_bool {a b : Bool} (h : a = b) : Ending.returned (.bool a) = .returned (.bool b) := by rw [h]
theorem ret_int {a b : Int} (h : a = b) : Ending.returned (.int .i64 a) = .returned (.int .i64 b) := by rw [h]

/-- Where a place moves. -/
def pl (p at' del : Int) (n : Nat) (high : Bool) : Int := if p < at' then p else if at' + del < p then p - del + n else if high then at' + n else at'
/-- May an edit be? -/
def fair (at' del : Int) : Bool := decide (0 ≤ at' ∧ 0 ≤ del ∧ at' + del ≤ 2147483648)
/-- May a range be? -/
def may (f t : Int) : Bool := decide (0 ≤ f ∧ f ≤ t ∧ t ≤ 2147483648)

theorem movedPlace (p x d : Int) (a : Option Addr) (n c : Nat) (h : Bool) (w : World) (hp : -1000000000000 ≤ p ∧ p ≤ 1000000000000) (hx : 0 ≤ x ∧ x ≤ 2147483648) (hd : 0 ≤ d ∧ d ≤ 2147483648) (hn : n ≤ 1000000000000) :
    Calls Try.prog 38 #[.int .i64 p, .agg #[.int .i64 x, .int .i64 d, .slice a n c], .bool h] w fun e w' => e = .returned (.int .i64 (pl p x d n h)) ∧ w' = w.alloc (Obj.cells #[.int .i64 x, .int .i64 d, .slice a n c] 28) := by
  go_enter Try.func38, Try.ntmps38
  go_wp2
  all_goals (go_ret; refine ⟨ret_int ?_, rfl⟩; unfold pl; repeat' split)
  all_goals first | omega | simp_all

theorem refPlace (p x d : Int) (a : Option Addr) (n c : Nat) (h : Bool) (w : World) (hp : -1000000000000 ≤ p ∧ p ≤ 1000000000000) (hx : 0 ≤ x ∧ x ≤ 2147483648) (hd : 0 ≤ d ∧ d ≤ 2147483648) (hn : n ≤ 1000000000000) :
    Calls Try.prog 27 #[.int .i64 p, .agg #[.int .i64 x, .int .i64 d, .slice a n c], .bool h] w fun e w' => e = .returned (.int .i64 (pl p x d n h)) ∧ w' = w.alloc (Obj.cells #[.int .i64 x, .int .i64 d, .slice a n c] 28) := by
  go_enter Try.func27, Try.ntmps27
  go_wp2
  all_goals (go_ret; refine ⟨ret_int ?_, rfl⟩; unfold pl; repeat' split)
  all_goals first | omega | simp_all

theorem valid (f t : Int) (l r : Bool) (w : World) :
    Calls Try.prog 24 #[.agg #[.int .i64 f, .int .i64 t, .bool l, .bool r]] w fun e w' => e = .returned (.bool (may f t)) ∧ w' = w.alloc (Obj.cells #[.int .i64 f, .int .i64 t, .bool l, .bool r] 25) := by
  go_enter Try.func24, Try.ntmps24
  go_wp2
  all_goals (go_ret; refine ⟨ret_bool ?_, rfl⟩; unfold may; rw [Bool.eq_iff_iff]; simp; omega)

theorem refMay (f t : Int) (l r : Bool) (i : Int) (w : World) :
    Calls Try.prog 8 #[.agg #[.int .i64 f, .int .i64 t, .bool l, .bool r, .int .i64 i]] w fun e w' => e = .returned (.bool (may f t)) ∧ w' = w.alloc (Obj.cells #[.int .i64 f, .int .i64 t, .bool l, .bool r, .int .i64 i] 35) := by
  go_enter Try.func8, Try.ntmps8
  go_wp2
  all_goals (go_ret; refine ⟨ret_bool ?_, rfl⟩; unfold may; rw [Bool.eq_iff_iff]; simp; omega)

theorem validEdit (x d : Int) (a : Option Addr) (n c : Nat) (w : World) :
    Calls Try.prog 25 #[.agg #[.int .i64 x, .int .i64 d, .slice a n c]] w fun e w' => e = .returned (.bool (fair x d)) ∧ w' = w.alloc (Obj.cells #[.int .i64 x, .int .i64 d, .slice a n c] 28) := by
  go_enter Try.func25, Try.ntmps25
  go_wp2
  all_goals (go_ret; refine ⟨ret_bool ?_, rfl⟩; unfold fair; rw [Bool.eq_iff_iff]; simp; omega)

theorem refFair (x d : Int) (a : Option Addr) (n c : Nat) (w : World) :
    Calls Try.prog 10 #[.agg #[.int .i64 x, .int .i64 d, .slice a n c]] w fun e w' => e = .returned (.bool (fair x d)) ∧ w' = w.alloc (Obj.cells #[.int .i64 x, .int .i64 d, .slice a n c] 28) := by
  go_enter Try.func10, Try.ntmps10
  go_wp2
  all_goals (go_ret; refine ⟨ret_bool ?_, rfl⟩; unfold fair; rw [Bool.eq_iff_iff]; simp; omega)

/-- A result that lies in a cell. -/
theorem results_cell1 {fn : Func} {p : Tmp} {ty : TypeId} (h : fn.results = #[.cell p ty]) (tmps : Array Value) (P : Program) (w : World) :
    (results fn tmps).run P w = ((asAddr (tmps.getD p undef)).run P w).andThen fun a w₁ => (loadVar ty a).run P w₁ := by
  simp only [results, h]
  simp [Sem.run_bind, Result.andThen]

theorem refAs (f t : Int) (l r : Bool) (i : Int) (w : World) :
    Calls Try.prog 9 #[.agg #[.int .i64 f, .int .i64 t, .bool l, .bool r], .int .i64 i] w fun e w' => e = .returned (.agg #[.int .i64 f, .int .i64 t, .bool l, .bool r, .int .i64 i]) ∧ w' = (w.alloc (Obj.cells #[.int .i64 f, .int .i64 t, .bool l, .bool r] 25)).alloc (Obj.cells #[.int .i64 f, .int .i64 t, .bool l, .bool r, .int .i64 i] 35) := by
  go_enter Try.func9, Try.ntmps9
  go_wp2
  (try simp only [Exit.inBlock, Exit.then])
  refine bodyPost_ret (v := .agg #[.int .i64 f, .int .i64 t, .bool l, .bool r, .int .i64 i]) ?_ rfl ⟨rfl, ?_⟩
  · rw [results_cell1 rfl]
    go_simp
  · rfl

end Go.Proofs.Ytlihgcpiokaehaa
