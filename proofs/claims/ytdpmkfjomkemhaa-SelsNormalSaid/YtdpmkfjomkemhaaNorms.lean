/- The contract of the program's Normal. Conditions: the selections lie in memory, not too many. -/
import Derived.Test.YtdpmkfjomkemhaaMerged
import Derived.Test.YtdpmkfjomkemhaaOrdered
import Derived.Test.YtdpmkfjomkemhaaWithin
namespace Go.Proofs.Ytdpmkfjomkemhaa
open Go Go.RowKit Go.Sort

theorem len0_max (m : Int) : max m 0 = if m < 0 then 0 else m := by split <;> omega
set_option maxHeartbeats 4000000 in
theorem normalAt (a : Option Addr) (n c : Nat) (m : Int) (ls : List Sl) (w : World) (hn : n ≤ 1000) (hl : RowAt Sl.cells 24 w a n ls) :
    Calls Try.prog 6 #[.slice a n c, .int .i64 m] w (GotN w (ownOf (if m < 0 then 0 else m) ls)) := by
  have HL := Lib.hid hl
  obtain ⟨M, hM⟩ : ∃ M : Int, M = if m < 0 then 0 else m := ⟨_, rfl⟩
  have h0M : 0 ≤ M := by rw [hM]; split <;> omega
  have eM : max m 0 = M := by rw [hM]; exact len0_max m
  rw [← hM]
  clear hM hl
  by_cases hz : n = 0
  · subst hz
    have hnil : ls = [] := List.eq_nil_of_length_eq_zero HL.out.1
    subst hnil
    go_enter Try.func6, Try.ntmps6
    go_wp2
    go_ret
    refine ⟨_, [⟨0, 0⟩], rfl, .inl ⟨rfl, rfl⟩, ?_, (Below.refl _ _).alloc (Nat.le_refl _) _⟩
    exact World.ownsRow_lit w #[.int .i64 0, .int .i64 0] 1 (Nat.le_refl _) (by unfold maxLen; omega) rfl
  · have b0 : ((n : Int) == 0) = false := by simp; omega
    have C1 := Lib.hid (withinAt a n c M ls w h0M hn HL.out)
    clear h0M
    go_enter Try.func6, Try.ntmps6
    go_wp2_with fail
    (with_reducible refine C1.out.mono ?_)
    rintro e w1 ⟨v1, rfl, own1, hb1⟩
    rcases own1.2 with ⟨_, h0⟩ | ⟨g1, c1, _, rfl, hB1, _, _, _⟩
    · exact absurd h0 hz
    have C2 := Lib.hid (ordered w.heap.size g1 n c1 (ownOf M ls) w1 own1 hn)
    have BB := Lib.hid hb1
    clear own1 hb1 C1
    go_wp2_with fail
    (with_reducible refine C2.out.mono ?_)
    rintro e w2 ⟨rfl, d, hst, hso, hdz, hrow, hb2⟩
    have C3 := Lib.hid (mergedAt (some ⟨g1, 0, none⟩) n c1 d.toList w2 hn hrow (asc_of_sorted (by rw [hdz]; exact hso)))
    have B2 := Lib.hid (BB.out.trans (hb2.mono hB1))
    have ST := Lib.hid hst
    clear hst hso hdz hrow hb2 C2 BB
    go_wp2_with fail
    (with_reducible refine C3.out.mono ?_)
    rintro e w3 ⟨v3, out, rfl, hno, own3, hb3⟩
    have NO := Lib.hid (show Norm (ownOf M ls) out from norm_stab ST.out hno)
    have B3 := Lib.hid (B2.out.trans (hb3.mono B2.out.size))
    have O3 := Lib.hid (own_mono own3 B2.out.size)
    have NE := Lib.hid (show ownOf M ls ≠ [] from fun e => by
      have h1 := HL.out.1
      have h2 := congrArg List.length e
      simp [ownOf] at h2
      rw [h2] at h1
      simp at h1
      omega)
    clear hno own3 hb3 C3 B2 ST
    go_wp2
    go_ret
    exact ⟨v3, out, rfl, .inr ⟨NE.out, NO.out⟩, O3.out, B3.out⟩
end Go.Proofs.Ytdpmkfjomkemhaa
