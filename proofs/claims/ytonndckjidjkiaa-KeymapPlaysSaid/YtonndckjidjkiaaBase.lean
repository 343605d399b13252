/- Contracts of the functions that touch no memory: which runes are valid, what is typed, which numbers are commands, on both sides. Conditions: numbers are in their kind's range. -/
import Derived.Test.YtonndckjidjkiaaChecked
import Derived.WalkKit
import Derived.Lib.Small
import Derived.Lib.Hide
import Derived.Deep.QuietTactic
import Derived.BigQuiet
import Derived.WalkSmall
namespace Go.Proofs.Ytonndckjidjkiaa
open Go Go.RowKit

theorem ret_bool {a b : Bool} (h : a = b) : Ending.returned (.bool a) = .returned (.bool b) := by rw [h]
theorem ret_int {a b : Int} (h : a = b) : Ending.returned (.int .i64 a) = .returned (.int .i64 b) := by rw [h]

theorem validRune (r : Int) (w : World) :
    Calls Try.prog 24 #[.int .i32 r] w fun e w' => e = .returned (.bool (Lib.validRune r)) ∧ w = w' := by
  go_enter Try.func24, Try.ntmps24
  go_wp2
  all_goals (go_ret; refine ⟨ret_bool ?_, rfl⟩; unfold Lib.validRune; rw [Bool.eq_iff_iff]; simp; omega)

theorem right (r : Int) (w : World) :
    Calls Try.prog 23 #[.int .i32 r] w fun e w' => e = .returned (.bool (Lib.validRune r)) ∧ w = w' := by
  go_enter Try.func23, Try.ntmps23
  go_wp2_with (go_at_call 24; refine (validRune _ _).mono ?_; rintro e w' ⟨rfl, rfl⟩)
  go_ret
  exact ⟨rfl, rfl⟩

theorem refRight (r : Int) (w : World) :
    Calls Try.prog 18 #[.int .i32 r] w fun e w' => e = .returned (.bool (Lib.validRune r)) ∧ w = w' := by
  go_enter Try.func18, Try.ntmps18
  go_wp2
  all_goals (go_ret; refine ⟨ret_bool ?_, rfl⟩; unfold Lib.validRune; rw [Bool.eq_iff_iff]; simp; omega)

/-- A key. -/
structure Ky where
  k : Int
  r : Int
  m : Int
deriving DecidableEq
def Ky.val (x : Ky) : Value := .agg #[.int .i64 x.k, .int .i32 x.r, .int .i64 x.m]

/-- Is it typed, where no map has it? -/
def typedB (x : Ky) : Bool := decide (x.k = 1 ∧ x.m = 0 ∧ 32 ≤ x.r ∧ x.r ≠ 127) && Lib.validRune x.r

theorem isTyped (x : Ky) (w : World) : Calls Try.prog 17 #[x.val] w fun e w' => e = .returned (.bool (typedB x)) ∧ Below w.heap.size w w' := by
  obtain ⟨k, r, m⟩ := x
  have HB := fun o => Lib.hid (show Below w.heap.size w (w.alloc o) from (Below.refl _ _).alloc (Nat.le_refl _) _)
  unfold Ky.val
  simp only
  cases hv : Lib.validRune r
  all_goals
    have hv2 := Lib.hid hv
    clear hv
    go_enter Try.func17, Try.ntmps17
    go_wp2_with (go_at_call 23; refine (right _ _).mono ?_; rintro e w' ⟨rfl, rfl⟩; rw [hv2.out])
    all_goals (go_ret; refine ⟨ret_bool ?_, (HB _).out⟩; rw [Bool.eq_iff_iff]; simp [typedB, hv2.out]; try omega)

/-- Is the number a command, or none? -/
def cmdB (c : Int) : Bool := decide (0 ≤ c ∧ c ≤ 4 ∨ 11 ≤ c ∧ c ≤ 20 ∨ 31 ≤ c ∧ c ≤ 40 ∨ 51 ≤ c ∧ c ≤ 56 ∨ 61 ≤ c ∧ c ≤ 62 ∨ 71 ≤ c ∧ c ≤ 74 ∨ 81 ≤ c ∧ c ≤ 83 ∨ 91 ≤ c ∧ c ≤ 93)

theorem isMotion (z : Int) (w : World) : Calls Try.prog 19 #[.int .i64 z] w fun e w' => e = .returned (.bool (decide (1 ≤ z ∧ z ≤ 10))) ∧ w = w' := by
  go_enter Try.func19, Try.ntmps19
  go_wp2
  all_goals (go_ret; refine ⟨ret_bool ?_, rfl⟩; rw [Bool.eq_iff_iff]; simp; omega)

theorem refIs (c : Int) (hc : -9223372036854775808 ≤ c ∧ c ≤ 9223372036854775807) (w : World) : Calls Try.prog 10 #[.int .i64 c] w fun e w' => e = .returned (.bool (cmdB c)) ∧ w = w' := by
  by_cases h0 : c < 0
  all_goals
    go_enter Try.func10, Try.ntmps10
    go_wp2
    all_goals (go_ret; refine ⟨ret_bool ?_, rfl⟩; rw [Bool.eq_iff_iff]; simp [cmdB] at *; try omega)

theorem wrapM (c : Int) (d : Int) (hd : d = 10 ∨ d = 30) (hc : -9223372036854775808 ≤ c ∧ c ≤ 9223372036854775807) : (1 ≤ wrap64 (c - d) ∧ wrap64 (c - d) ≤ 10) ↔ (d + 1 ≤ c ∧ c ≤ d + 10) := by
  unfold wrap64
  omega

theorem is (c : Int) (hc : -9223372036854775808 ≤ c ∧ c ≤ 9223372036854775807) (w : World) : Calls Try.prog 9 #[.int .i64 c] w fun e w' => e = .returned (.bool (cmdB c)) ∧ w = w' := by
  go_enter Try.func9, Try.ntmps9
  go_wp2_with (go_at_call 19; refine (isMotion _ _).mono ?_; rintro e w' ⟨rfl, rfl⟩)
  all_goals (go_ret; refine ⟨ret_bool ?_, rfl⟩; rw [Bool.eq_iff_iff]; simp [cmdB] at *; have a1 := wrapM c 10 (.inl rfl) hc; have a2 := wrapM c 30 (.inr rfl) hc; omega)
end Go.Proofs.Ytonndckjidjkiaa
