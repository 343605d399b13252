/- The walk of WidthTells. -/
import Derived.Test.YtdeckkmlcbbjcaaDoorWalkD
namespace Go.Proofs.YtdeckkmlcbbjcaaDoor
open Go Go.RowKit

theorem tells_long (r : Int) (a : Option Addr) (n cap : Nat) (c : Int) (w : World) (hn : 200 < n) (hT : Tab w) :
    Calls Tryd.prog 3 #[.int .i32 r, .slice a n cap, .int .i64 c] w fun e w' => e = .returned (.bool true) ∧ Below w.heap.size w w' := by
  have hn' : (200 : Int) < (n : Int) := by omega
  have HT := Lib.hid hT
  clear hT
  go_enter Tryd.func3, Tryd.ntmps3
  go_wp2_with (go_at_call 5; refine (knows _ HT.out).mono ?_; rintro e w' ⟨rfl, hb⟩)
  go_ret
  exact ⟨rfl, ‹_›⟩

set_option maxHeartbeats 1000000 in
theorem tells_short (r : Int) (a : Option Addr) (n cap : Nat) (zs : List Int) (c : Int) (w : World) (hn : n ≤ 200) (hcap : n ≤ cap) (hc1 : c ≤ 9223372036854775807) (hT : Tab w) (h : SeqAt w a n zs) :
    Calls Tryd.prog 3 #[.int .i32 r, .slice a n cap, .int .i64 c] w fun e w' => e = .returned (.bool true) ∧ Below w.heap.size w w' := by
  have hn' : ¬ (200 : Int) < (n : Int) := by omega
  have hp := hT.pos
  have HT := Lib.hid hT
  have HS := Lib.hid h
  clear hT h
  go_enter Tryd.func3, Tryd.ntmps3
  go_wp2_with fail
  refine (of r w HT.out).mono ?_
  rintro e w1 ⟨rfl, b1⟩
  have B1 := Lib.hid b1
  clear b1
  go_wp2_with fail
  refine (refOf r w1).mono ?_
  rintro e w2 ⟨rfl, rfl⟩
  go_wp2_with fail
  refine (text a n cap zs w1 (by omega) (HT.out.below hp B1.out) (HS.out.below (Nat.le_refl _) B1.out)).mono ?_
  rintro e w2 ⟨rfl, b2⟩
  have B2 := Lib.hid (B1.out.trans (b2.mono B1.out.size))
  clear b2
  go_wp2_with fail
  refine (refText a n cap zs w2 (by omega) (HS.out.below (Nat.le_refl _) B2.out)).mono ?_
  rintro e w3 ⟨rfl, rfl⟩
  go_wp2_with fail
  refine (fit a n cap zs c w2 (by omega) hc1 (HT.out.below hp B2.out) (HS.out.below (Nat.le_refl _) B2.out)).mono ?_
  rintro e w3 ⟨rfl, b3⟩
  have B3 := Lib.hid (B2.out.trans (b3.mono B2.out.size))
  clear b3
  go_wp2_with fail
  refine (refFit a n cap zs c w3 (by omega) hcap (HS.out.below (Nat.le_refl _) B3.out)).mono ?_
  rintro e w4 ⟨rfl, rfl⟩
  go_wp2_with fail
  refine (knows w3 (HT.out.below hp B3.out)).mono ?_
  rintro e w4 ⟨rfl, b4⟩
  have B4 := Lib.hid (B3.out.trans (b4.mono B3.out.size))
  clear b4
  go_wp2
  go_ret
  exact ⟨rfl, B4.out⟩
end Go.Proofs.YtdeckkmlcbbjcaaDoor
