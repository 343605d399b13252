/- The walk of RopePlays, where it asks the examples alone. -/
import Derived.Test.YtlijkejadjkbcaaPlayA
namespace Go.Proofs.Ytlijkejadjkbcaa
open Go Go.RowKit

set_option maxRecDepth 100000 in
theorem plays_knows (a ad : Option Addr) (n cap m mc : Nat) (ds : List Dd) (w : World) (hm : m ≤ maxLen) (hds : Dds w ad m ds) (h : 2500 < n ∨ (n ≤ 2500 ∧ fewB ds = false)) :
    Calls Try.prog 3 #[.slice a n cap, .slice ad m mc] w fun e w' => e = .returned (.bool true) ∧ Below w.heap.size w w' := by
  have K := Lib.hid (knows w)
  have F := few ad m mc ds w hm hds
  clear hds hm
  rcases h with h | ⟨h, h'⟩
  · have hn : (2500 : Int) < (n : Int) := by omega
    clear F
    go_enter Try.func3, Try.ntmps3
    go_wp2_with fail
    (with_reducible refine K.out.mono ?_)
    rintro e w' ⟨rfl, hb⟩
    go_wp2
    go_ret
    exact ⟨rfl, hb⟩
  · have hn : ¬ (2500 : Int) < (n : Int) := by omega
    rw [h'] at F
    have FF := Lib.hid F
    clear F h'
    go_enter Try.func3, Try.ntmps3
    go_wp2_with fail
    (with_reducible refine FF.out.mono ?_)
    rintro e w' ⟨rfl, rfl⟩
    go_wp2_with fail
    (with_reducible refine K.out.mono ?_)
    rintro e w' ⟨rfl, hb⟩
    go_wp2
    go_ret
    exact ⟨rfl, hb⟩

theorem own_starts {w : World} {B n : Nat} {v : Value} {ts : List Int} (h : w.ownsRow B 3 1 v (n + 1) (ints64 (starts ts))) (p : Nat) (hp : p ≤ brk ts) : ∃ g c, v = .slice (some ⟨g, 0, none⟩) (n + 1) c ∧ w.cell? ⟨g, p, none⟩ = some (.int .i64 (beh ts p)) := by
  rcases h.2 with ⟨_, h0⟩ | ⟨g, c, cur, rfl, _⟩
  · omega
  · refine ⟨g, c, rfl, ?_⟩
    have := h.cells (g := g) rfl p _ (starts_get ts p hp)
    rwa [Addr.add_lit, Nat.zero_add] at this

set_option maxRecDepth 100000 in
theorem plays_wrong (a ad : Option Addr) (n cap m mc : Nat) (zs : List Int) (ds : List Dd) (w : World) (hn : n ≤ 2500) (hz : SeqAt .i32 w a n zs) (hm : m ≤ maxLen) (hds : Dds w ad m ds) (hf : fewB ds = true) (h : zs.all Lib.validRune = false ∨ (zs.all Lib.validRune = true ∧ 2000 < n)) :
    Calls Try.prog 3 #[.slice a n cap, .slice ad m mc] w fun e w' => e = .returned (.bool true) ∧ Below w.heap.size w w' := by
  have F := few ad m mc ds w hm hds
  rw [hf] at F
  have FF := Lib.hid F
  have hn' : ¬ (2500 : Int) < (n : Int) := by omega
  have HZ := Lib.hid hz
  clear hds hm F hf hz
  rcases h with h | ⟨h, h'⟩
  · have OF := Lib.hid (of_bad a n cap zs w (by omega) HZ.out h)
    have HV := Lib.hid h
    clear h
    go_enter Try.func3, Try.ntmps3
    go_wp2_with fail
    (with_reducible refine FF.out.mono ?_)
    rintro e w' ⟨rfl, rfl⟩
    go_wp2_with fail
    (with_reducible refine OF.out.mono ?_)
    rintro e w1 ⟨rfl, b1⟩
    have RR := refRightOf a n cap zs w1 (by omega) (HZ.out.below b1)
    rw [HV.out] at RR
    simp only [Bool.false_eq_true, if_false] at RR
    have R1 := Lib.hid RR
    have K := Lib.hid (knows w1)
    have B1 := Lib.hid b1
    clear RR b1
    go_wp2_with fail
    (with_reducible refine R1.out.mono ?_)
    rintro e w' ⟨rfl, rfl⟩
    go_wp2_with fail
    (with_reducible refine K.out.mono ?_)
    rintro e w' ⟨rfl, hb⟩
    have B2 := Lib.hid (B1.out.trans (hb.mono B1.out.size))
    clear hb
    go_wp2
    go_ret
    exact ⟨rfl, B2.out⟩
  · have OF := Lib.hid (of_full a n cap zs w (by omega) HZ.out h h')
    have HV := Lib.hid h
    clear h
    go_enter Try.func3, Try.ntmps3
    go_wp2_with fail
    (with_reducible refine FF.out.mono ?_)
    rintro e w' ⟨rfl, rfl⟩
    go_wp2_with fail
    (with_reducible refine OF.out.mono ?_)
    rintro e w1 ⟨rfl, b1⟩
    have RR := refRightOf a n cap zs w1 (by omega) (HZ.out.below b1)
    rw [HV.out, if_pos rfl, if_pos h'] at RR
    have R1 := Lib.hid RR
    have K := Lib.hid (knows w1)
    have B1 := Lib.hid b1
    clear RR b1
    go_wp2_with fail
    (with_reducible refine R1.out.mono ?_)
    rintro e w' ⟨rfl, rfl⟩
    go_wp2_with fail
    (with_reducible refine K.out.mono ?_)
    rintro e w' ⟨rfl, hb⟩
    have B2 := Lib.hid (B1.out.trans (hb.mono B1.out.size))
    clear hb
    go_wp2
    go_ret
    exact ⟨rfl, B2.out⟩

end Go.Proofs.Ytlijkejadjkbcaa
