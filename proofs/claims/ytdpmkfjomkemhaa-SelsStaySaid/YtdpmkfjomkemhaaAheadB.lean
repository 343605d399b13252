/- ahead, as the walk of the reference's Normal meets it. -/
import Derived.Test.YtdpmkfjomkemhaaMerge
namespace Go.Proofs.Ytdpmkfjomkemhaa
open Go Go.RowKit

open Classical in
theorem aheadB (V : World) (a : Option Addr) (n c : Nat) (own : List Sl) (x y : Int) (W : World) (h : RowAt Sl.cells 24 V a n own) (hx : Place own x) (hy : Place own y) (b : Bool) (hb : b = decide (Ahead own x y)) (hV : Below V.heap.size V W) :
    Calls Try.prog 19 #[.slice a n c, .int .i64 x, .int .i64 y] W fun e w' => e = .returned (.bool b) ∧ Below V.heap.size V w' :=
  (ahead a n c own x y W (h.below hV) hx hy).mono fun _ _ ⟨he, hw⟩ => ⟨he.trans (by rw [hb]), hV.trans (hw.mono hV.size)⟩
theorem ahead_bool (own : List Sl) (x y : Int) : ∃ b : Bool, b = @decide (Ahead own x y) (Classical.propDecidable _) := ⟨_, rfl⟩
/-- One of two, by a bool. -/
def chose (b : Bool) (x y : Int) : Int := match b with
  | true => x
  | false => y
theorem chose_who {own : List Sl} {x y : Int} {b : Bool} (h : b = @decide (Ahead own x y) (Classical.propDecidable _)) : chose b x y = x ∧ Ahead own x y ∨ chose b x y = y ∧ ¬ Ahead own x y := by
  cases b with
  | true => exact .inl ⟨rfl, @of_decide_eq_true _ (Classical.propDecidable _) h.symm⟩
  | false => exact .inr ⟨rfl, @of_decide_eq_false _ (Classical.propDecidable _) h.symm⟩
end Go.Proofs.Ytdpmkfjomkemhaa
