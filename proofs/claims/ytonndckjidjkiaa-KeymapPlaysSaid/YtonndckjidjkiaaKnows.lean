/- knows: the examples. No conditions. -/
import Derived.Test.YtonndckjidjkiaaBind
namespace Go.Proofs.Ytonndckjidjkiaa
open Go Go.RowKit

theorem ex1 : findZ ⟨1, 97, 4⟩ first50 = 15 := by kernel_rfl
theorem ex2 : findZ ⟨1, 97, 0⟩ first50 = 1 := by kernel_rfl
theorem ex3 : findZ ⟨0, 0, 0⟩ [] = 0 := by kernel_rfl

set_option maxHeartbeats 1000000 in
theorem knows (w : World) : Calls Try.prog 11 #[] w fun e w' => e = .returned (.bool true) ∧ Below w.heap.size w w' := by
  have N := Lib.hid (new w)
  have F3 := find_nil ⟨0, 0, 0⟩
  have G := bind_nil ⟨0, 0, 0⟩ 1
  rw [ex3] at F3
  unfold Ky.val at F3 G
  simp only at F3 G
  have FF3 := Lib.hid F3
  have GG := Lib.hid G
  clear F3 G
  go_enter Try.func11, Try.ntmps11
  go_wp2_with fail
  (with_reducible refine N.out.mono ?_)
  rintro e w1 ⟨mb, hmb, rfl, hm, hb⟩
  have M := Lib.hid hm
  have B := Lib.hid hb
  have F1 := fun w' (b : Below w1.heap.size w1 w') => find mb w.heap.size ⟨1, 97, 4⟩ first50 w' (M.out.below b)
  have F2 := fun w' (b : Below w1.heap.size w1 w') => find mb w.heap.size ⟨1, 97, 0⟩ first50 w' (M.out.below b)
  rw [ex1] at F1
  rw [ex2] at F2
  unfold Ky.val at F1 F2
  simp only at F1 F2
  have FF1 := Lib.hid (F1 w1 (Below.refl _ _))
  have FF2 := Lib.hid F2
  clear F1 F2 hm hb
  go_wp2_with fail
  (with_reducible refine FF1.out.mono ?_)
  rintro e w2 ⟨rfl, b2⟩
  have F2 := Lib.hid (FF2.out w2 b2)
  have B2 := Lib.hid (B.out.trans (b2.mono B.out.size))
  clear b2
  go_wp2_with fail
  (with_reducible refine F2.out.mono ?_)
  rintro e w3 ⟨rfl, b3⟩
  have B3 := Lib.hid (B2.out.trans (b3.mono B2.out.size))
  clear b3
  go_wp2_with fail
  (with_reducible refine (FF3.out _).mono ?_)
  rintro e w4 ⟨rfl, b4⟩
  have B4 := Lib.hid (B3.out.trans (b4.mono B3.out.size))
  clear b4
  go_wp2_with fail
  (with_reducible refine (GG.out _).mono ?_)
  rintro e w5 ⟨rfl, b5⟩
  have B5 := Lib.hid (B4.out.trans (b5.mono B4.out.size))
  clear b5
  go_wp2
  go_ret
  exact ⟨rfl, B5.out⟩
end Go.Proofs.Ytonndckjidjkiaa
