/- The contracts of the reference's Same (at slices that hold the same runes) and All. -/
import Derived.Test.YtcpfillmdkhjlaaDoorWalkB
import Derived.Deep.QuietTactic
import Derived.BigQuiet
import Derived.WalkSmall
namespace Go.Proofs.YtcpfillmdkhjlaaDoor
open Go Go.RowKit Go.Lib

theorem same_none (a c : Option Addr) (cap cap' : Nat) (w : World) :
    Calls Tryd.prog 13 #[.slice a 0 cap, .slice c 0 cap'] w fun e w' => e = .returned (.bool true) ∧ Below w.heap.size w w' := by
  go_enter Tryd.func13, Tryd.ntmps13
  go_wp2
  go_loop [5] (fun i => i = .int .i64 0) (fun _ => 0)
  case atStart => rfl
  case round =>
    subst hrel
    go_wp2
    go_ret
    exact ⟨rfl, Below.refl _ _⟩

set_option maxHeartbeats 1000000 in
theorem same_cells (b off b' off' n cap cap' : Nat) (zs : List Int) (w : World) (hn : n ≤ 1099511627776) (hl : zs.length = n) (hb : b < w.heap.size) (hb' : b' < w.heap.size)
    (hc : ∀ j z, zs[j]? = some z → w.cell? ⟨b, off + j, none⟩ = some (.int .i32 z)) (hc' : ∀ j z, zs[j]? = some z → w.cell? ⟨b', off' + j, none⟩ = some (.int .i32 z)) :
    Calls Tryd.prog 13 #[.slice (some ⟨b, off, none⟩) n cap, .slice (some ⟨b', off', none⟩) n cap'] w fun e w' => e = .returned (.bool true) ∧ Below w.heap.size w w' := by
  have HC := Lib.hid hc
  have HC' := Lib.hid hc'
  have HL := Lib.hid hl
  clear hc hc' hl
  go_enter Tryd.func13, Tryd.ntmps13
  go_wp2
  go_loopw [5] (fun i wr => ∃ k : Nat, k ≤ n ∧ i = .int .i64 k ∧ Below w.heap.size w wr) (fun i _ => n - (RowKit.intOf i).toNat)
  case atStart => exact ⟨0, Nat.zero_le _, rfl, Below.refl _ _⟩
  case round =>
    obtain ⟨k, hk, rfl, hbel⟩ := hrel
    have HB := Lib.hid hbel
    by_cases hlt : k < n
    · obtain ⟨z, hz⟩ : ∃ z, zs[k]? = some z := ⟨zs[k]'(by have := HL.out; omega), by simp⟩
      have c1 : wr.cell? ⟨b, off + k, none⟩ = some (.int .i32 z) := (hbel.cell (by exact hb)).trans (HC.out k z hz)
      have c2 : wr.cell? ⟨b', off' + k, none⟩ = some (.int .i32 z) := (hbel.cell (by exact hb')).trans (HC'.out k z hz)
      have hltz : (k : Int) < (n : Int) := by omega
      have hk0 : (0 : Int) ≤ (k : Int) := by omega
      clear hbel hz
      go_wp2_with fail
      go_quiet (fail)
      go_wp2
      go_roundw
      case rel => exact ⟨k + 1, by omega, by go_num, below_drewN HB.out _⟩
      case measure => simp [RowKit.intOf]; omega
    · clear hbel
      go_wp2
      go_ret
      exact ⟨rfl, HB.out⟩

/-- Same, at slices that hold the same runes. -/
theorem same (a c : Option Addr) (n cap cap' : Nat) (zs : List Int) (w : World) (hn : n ≤ 1099511627776) (h : SeqAt .i32 w a n zs) (h' : SeqAt .i32 w c n zs) :
    Calls Tryd.prog 13 #[.slice a n cap, .slice c n cap'] w fun e w' => e = .returned (.bool true) ∧ Below w.heap.size w w' := by
  by_cases h0 : n = 0
  · subst h0
    exact same_none a c cap cap' w
  · obtain ⟨hl, h1⟩ := h
    obtain ⟨_, h2⟩ := h'
    rcases h1 with h1 | ⟨b, off, rfl, hlt, hc⟩
    · exact absurd h1 h0
    · rcases h2 with h2 | ⟨b', off', rfl, hlt', hc'⟩
      · exact absurd h2 h0
      · exact same_cells b off b' off' n cap cap' zs w hn hl hlt hlt' hc hc'

theorem own_seq {w : World} {B n : Nat} {v : Value} {zs : List Int} (h : w.ownsRow B 21 1 v n (zs.map (fun x => Value.int .i32 x))) : ∃ a cap, v = .slice a n cap ∧ n ≤ cap ∧ SeqAt .i32 w a n zs := by
  have hl := h.1
  simp at hl
  rcases h.2 with ⟨rfl, rfl⟩ | ⟨g, cap, cur, rfl, hB, hg, hc, _⟩
  · exact ⟨none, 0, rfl, Nat.le_refl _, by simpa using hl, .inl rfl⟩
  · refine ⟨_, cap, rfl, hc, by omega, .inr ⟨g, 0, rfl, (Array.getElem?_eq_some_iff.1 hg).1, fun j z hz => ?_⟩⟩
    have := h.cells (g := g) rfl j (.int .i32 z) (by simp [hz])
    rwa [Addr.add_lit] at this
end Go.Proofs.YtcpfillmdkhjlaaDoor
