/- The walk of UtfReads. -/
import Derived.Test.YtcpfillmdkhjlaaDoorWalkJ
import Derived.Test.YtcpfillmdkhjlaaDoorWalkK
namespace Go.Proofs.YtcpfillmdkhjlaaDoor
open Go Go.RowKit Go.Lib

theorem reads_long (a : Option Addr) (n cap : Nat) (w : World) (hn : 1000 < n) (hT : Lib.Utf8Tabs 0 1 w) :
    Calls Tryd.prog 4 #[.slice a n cap] w fun e w' => e = .returned (.bool true) ∧ Below w.heap.size w w' := by
  have hn' : (1000 : Int) < (n : Int) := by omega
  have HT := Lib.hid hT
  clear hT
  go_enter Tryd.func4, Tryd.ntmps4
  go_wp2_with (go_at_call 6; refine (knows _ HT.out).mono ?_; rintro e w' ⟨rfl, hb⟩)
  go_ret
  exact ⟨rfl, ‹_›⟩

set_option maxHeartbeats 2000000 in
theorem reads_short (s : ByteArray) (a : Option Addr) (cap : Nat) (w : World) (hs : s.size ≤ 1000) (hcap : s.size ≤ cap) (hcm : cap ≤ 9223372036854775807) (hT : Lib.Utf8Tabs 0 1 w) (hin : BytesIn s a w) :
    Calls Tryd.prog 4 #[.slice a s.size cap] w fun e w' => e = .returned (.bool true) ∧ Below w.heap.size w w' := by
  have hn' : ¬ (1000 : Int) < (s.size : Int) := by omega
  have hF := first s a cap w (by omega) hT hin
  have hR : ∀ W, Below w.heap.size w W → _ := fun W hW => refFirst s a cap W (by omega) hcap (hin.below hW)
  rw [first_same] at hR
  generalize firstGo s = fg at hF hR
  obtain ⟨r, n⟩ := fg
  have HF := Lib.hid hF
  have HR := Lib.hid hR
  have HT := Lib.hid hT
  have HI := Lib.hid hin
  clear hF hR hT hin
  go_enter Tryd.func4, Tryd.ntmps4
  go_wp2_with fail
  refine HF.out.mono ?_
  rintro e w1 ⟨rfl, b1⟩
  have B1 := Lib.hid b1
  clear b1
  go_wp2_with fail
  refine (HR.out w1 B1.out).mono ?_
  rintro e w2 ⟨rfl, b2⟩
  have B2 := Lib.hid (B1.out.trans (b2.mono B1.out.size))
  clear b2
  go_wp2_with fail
  refine (decode s a cap w2 (by omega) hcap (HI.out.below B2.out)).mono ?_
  rintro e w3 ⟨v1, rfl, o1, b3⟩
  have B3 := Lib.hid (B2.out.trans (b3.mono B2.out.size))
  have O1 := Lib.hid o1
  clear b3 o1
  go_wp2_with fail
  refine (refDecode s a cap w3 (by omega) hcap hcm (HI.out.below B3.out)).mono ?_
  rintro e w4 ⟨v2, rfl, o2, b4⟩
  obtain ⟨a1, c1, rfl, hc1, q1⟩ := own_seq (own_below' O1.out b4)
  obtain ⟨a2, c2, rfl, hc2, q2⟩ := own_seq o2
  have Q1 := Lib.hid q1
  have Q2 := Lib.hid q2
  have B4 := Lib.hid (B3.out.trans (b4.mono B3.out.size))
  have hdl : (decAll s).length ≤ s.size := decFrom_le s s.size 0
  clear b4 o2 q1 q2
  go_wp2_with fail
  refine (same a1 a2 _ c1 c2 (decAll s) w4 (by omega) Q1.out Q2.out).mono ?_
  rintro e w5 ⟨rfl, b5⟩
  have B5 := Lib.hid (B4.out.trans (b5.mono B4.out.size))
  clear b5
  go_wp2_with fail
  refine (knows w5 (Utf8Tabs_below HT.out B5.out)).mono ?_
  rintro e w6 ⟨rfl, b6⟩
  have B6 := Lib.hid (B5.out.trans (b6.mono B5.out.size))
  clear b6
  go_wp2
  go_ret
  exact ⟨rfl, B6.out⟩
end Go.Proofs.YtcpfillmdkhjlaaDoor
