/- The walk of UtfWrites. -/
import Derived.Test.YtcpfillmdkhjlaaDoorWalkE
import Derived.Deep.RegionWith
namespace Go.Proofs.YtcpfillmdkhjlaaDoor
open Go Go.RowKit Go.Lib

theorem writes_long (a : Option Addr) (n cap : Nat) (r : Int) (w : World) (hn : 1000 < n) (hT : Lib.Utf8Tabs 0 1 w) :
    Calls Tryd.prog 3 #[.slice a n cap, .int .i32 r] w fun e w' => e = .returned (.bool true) ∧ Below w.heap.size w w' := by
  have hn' : (1000 : Int) < (n : Int) := by omega
  have HT := Lib.hid hT
  clear hT
  go_enter Tryd.func3, Tryd.ntmps3
  go_wp2_with (go_at_call 6; refine (knows _ HT.out).mono ?_; rintro e w' ⟨rfl, hb⟩)
  go_ret
  exact ⟨rfl, ‹_›⟩

theorem own_below {w w' : World} {B e size n : Nat} {v : Value} {xs : List Value} (h : w.ownsRow B e size v n xs) (hb : Below w.heap.size w w') : w'.ownsRow B e size v n xs := by
  refine ⟨h.1, ?_⟩
  rcases h.2 with hn | ⟨g, cap, cur, rfl, hB, hg, rest⟩
  · exact .inl hn
  · exact .inr ⟨g, cap, cur, rfl, hB, by rw [hb.block g (Array.getElem?_eq_some_iff.1 hg).1]; exact hg, rest⟩

theorem below_chain {w w1 w2 w3 : World} (b0 : Hid (Below w.drew.heap.size w w.drew)) (b1 : Hid (Below w.drew.heap.size w.drew w1)) (b2 : Hid (Below w1.heap.size w1 w2)) (b3 : Hid (Below w2.heap.size w2 w3)) : Below w.heap.size w w3 :=
  have c1 : Below w.heap.size w w1 := (b0.out.mono b0.out.size).trans (b1.out.mono b0.out.size)
  have c2 : Below w.heap.size w w2 := c1.trans (b2.out.mono c1.size)
  c2.trans (b3.out.mono c2.size)

set_option maxHeartbeats 1000000 in
theorem writes_short (a : Option Addr) (n cap : Nat) (zs : List Int) (r : Int) (w : World) (hn : n ≤ 1000) (hT : Lib.Utf8Tabs 0 1 w) (h : SeqAt .i32 w a n zs) (hb : ∀ z ∈ zs, -2147483648 ≤ z ∧ z ≤ 2147483647) :
    Calls Tryd.prog 3 #[.slice a n cap, .int .i32 r] w fun e w' => e = .returned (.bool true) ∧ Below w.heap.size w w' := by
  have hn' : ¬ (1000 : Int) < (n : Int) := by omega
  have HT := Lib.hid hT
  have HS := Lib.hid h
  have HB := Lib.hid hb
  clear hT h hb
  go_enter Tryd.func3, Tryd.ntmps3
  go_wp2_with fail
  have bd : Below w.drew.heap.size w w.drew := (Below.refl _ _).drew
  have B0 := Lib.hid bd
  clear bd
  go_region_with (first
    | (go_at_call 7; refine (right _ _).mono ?_; rintro e w' ⟨rfl, rfl⟩)
    | (go_at_call 8; refine (refRight _ _).mono ?_; rintro e w' ⟨rfl, rfl⟩)
    | (go_at_call 9; refine (encode a n cap zs w.drew (by omega) (HS.out.below B0.out) HB.out).mono ?_; rintro e w1 ⟨v1, rfl, hown1, hb1⟩; have O1 := Lib.hid hown1; have B1 := Lib.hid hb1; clear hown1 hb1; have hc1 := conv_own O1.out _ (encCells_eq zs))
    | (go_at_call 10; refine (refEncode a n cap zs w1 (by omega) ((HS.out.below B0.out).below B1.out)).mono ?_; rintro e w2 ⟨v2, rfl, hown2, hb2⟩; have O2 := Lib.hid hown2; have B2 := Lib.hid hb2; clear hown2 hb2; have hc1' := conv_own (own_below O1.out B2.out) _ (encCells_eq zs); have hc2 := conv_own O2.out _ (encCells_eq zs))
    | (go_at_call 6; refine (knows w2 (Utf8Tabs_below (Utf8Tabs_below HT.out (B0.out.trans (B1.out.mono B0.out.size))) (B2.out.mono (Nat.le_refl _)))).mono ?_; rintro e w3 ⟨rfl, hb3⟩; have B3 := Lib.hid hb3; clear hb3))
  all_goals
    go_wp2
    go_ret
    exact ⟨rfl, below_chain B0 (by assumption) (by assumption) (by assumption)⟩
end Go.Proofs.YtcpfillmdkhjlaaDoor
