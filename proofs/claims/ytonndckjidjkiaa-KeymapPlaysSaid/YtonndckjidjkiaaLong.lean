/- The walk of KeymapPlays at more than 200 deeds. No conditions. -/
import Derived.Test.YtonndckjidjkiaaPlayA
namespace Go.Proofs.Ytonndckjidjkiaa
open Go Go.RowKit

set_option maxRecDepth 100000 in
theorem play_long (da : Option Addr) (m c : Nat) (w : World) (hm : 200 < m) :
    Calls Try.prog 4 #[.slice da m c] w fun e w' => e = .returned (.bool true) ∧ Below w.heap.size w w' := by
  have K := Lib.hid knows
  have N := Lib.hid (new w)
  have hz : (200 : Int) < (m : Int) := by omega
  go_enter Try.func4, Try.ntmps4
  go_wp2_with fail
  (with_reducible refine N.out.mono ?_)
  rintro e w1 ⟨mb, hmb, rfl, _, b1⟩
  have B1 := Lib.hid b1
  have hs1 := b1.size
  clear b1
  go_wp2_with fail
  (with_reducible refine (K.out _).mono ?_)
  rintro e w2 ⟨rfl, b2⟩
  have B2 := Lib.hid (B1.out.trans (b2.mono hs1))
  clear b2
  go_wp2
  go_ret
  exact ⟨rfl, B2.out⟩
end Go.Proofs.Ytonndckjidjkiaa
