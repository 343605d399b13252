/- Contracts of the width of one rune, told by the program (over its table) and by the reference. Condition of the first: the table holds what its initialiser lays. -/
import Derived.Test.YtnbpkabnaipimaaDoorChecked
import Derived.WalkKit
import Derived.Lib.Hide
import Derived.Lib.Small
import Derived.Deep.MidRow
namespace Go.Proofs.YtnbpkabnaipimaaDoor
open Go Go.RowKit

/-- The table's rows: from, to, width. -/
def tabL : List (Int × Int × Int) := [(768, 879, 0), (4352, 4447, 2), (8203, 8207, 0), (11904, 12350, 2), (12353, 19903, 2), (19968, 42191, 2), (44032, 55203, 2), (63744, 64255, 2), (65024, 65039, 0), (65072, 65135, 2), (65280, 65376, 2), (65504, 65510, 2), (127744, 128591, 2), (129280, 129535, 2), (131072, 262141, 2)]
def lo (k : Nat) : Int := (tabL.getD k (0, 0, 0)).1
def hi (k : Nat) : Int := (tabL.getD k (0, 0, 0)).2.1
def wk (k : Nat) : Int := (tabL.getD k (0, 0, 0)).2.2
/-- The table's cells. -/
def spansA : Array Value := (tabL.flatMap fun x => [Value.int .i32 x.1, Value.int .i32 x.2.1, Value.int .i64 x.2.2]).toArray
/-- The table lies in the world as its initialiser lays it. -/
def Tab (w : World) : Prop := w.rangeAt 0 0 spansA.toList
theorem Tab.below {w w' : World} {n : Nat} (h : Tab w) (hn : 0 < n) (hb : Below n w w') : Tab w' := by
  intro j v hv
  rw [hb.cell (by exact hn)]
  exact h j v hv
theorem Tab.pos {w : World} (h : Tab w) : 0 < w.heap.size := by
  have := h 0 (.int .i32 768) (by kernel_rfl)
  exact block_lt_of_cell this

/-- The width of a rune: the document's words. -/
def wd (r : Int) : Int :=
  if (768 ≤ r ∧ r ≤ 879) ∨ (8203 ≤ r ∧ r ≤ 8207) ∨ (65024 ≤ r ∧ r ≤ 65039) then 0
  else if (4352 ≤ r ∧ r ≤ 4447) ∨ (11904 ≤ r ∧ r ≤ 12350) ∨ (12353 ≤ r ∧ r ≤ 19903) ∨ (19968 ≤ r ∧ r ≤ 42191) ∨ (44032 ≤ r ∧ r ≤ 55203) ∨ (63744 ≤ r ∧ r ≤ 64255) ∨ (65072 ≤ r ∧ r ≤ 65135) ∨ (65280 ≤ r ∧ r ≤ 65376) ∨ (65504 ≤ r ∧ r ≤ 65510) ∨ (127744 ≤ r ∧ r ≤ 128591) ∨ (129280 ≤ r ∧ r ≤ 129535) ∨ (131072 ≤ r ∧ r ≤ 262141) then 2
  else 1
theorem wd_bounds (r : Int) : 0 ≤ wd r ∧ wd r ≤ 2 := by
  unfold wd
  split
  · omega
  · split <;> omega

theorem cases15 {k : Nat} (hk : k < 15) : k = 0 ∨ k = 1 ∨ k = 2 ∨ k = 3 ∨ k = 4 ∨ k = 5 ∨ k = 6 ∨ k = 7 ∨ k = 8 ∨ k = 9 ∨ k = 10 ∨ k = 11 ∨ k = 12 ∨ k = 13 ∨ k = 14 := by omega
theorem wd_at (k : Nat) (hk : k < 15) (r : Int) (h1 : lo k ≤ r) (h2 : r ≤ hi k) : wd r = wk k := by
  unfold wd
  rcases cases15 hk with rfl | rfl | rfl | rfl | rfl | rfl | rfl | rfl | rfl | rfl | rfl | rfl | rfl | rfl | rfl <;>
    (simp [lo, hi, wk, tabL] at h1 h2 ⊢; omega)
theorem wd_one (r : Int) (h : ∀ j, j < 15 → ¬ (lo j ≤ r ∧ r ≤ hi j)) : wd r = 1 := by
  have a0 := h 0 (by omega); have a1 := h 1 (by omega); have a2 := h 2 (by omega); have a3 := h 3 (by omega); have a4 := h 4 (by omega)
  have a5 := h 5 (by omega); have a6 := h 6 (by omega); have a7 := h 7 (by omega); have a8 := h 8 (by omega); have a9 := h 9 (by omega)
  have a10 := h 10 (by omega); have a11 := h 11 (by omega); have a12 := h 12 (by omega); have a13 := h 13 (by omega); have a14 := h 14 (by omega)
  simp [lo, hi, tabL] at a0 a1 a2 a3 a4 a5 a6 a7 a8 a9 a10 a11 a12 a13 a14
  unfold wd
  rw [if_neg (by omega), if_neg (by omega)]

theorem idx (k : Nat) (hk : k < 15) (w : World) : (Instr.index 74 (.agg spansA) (.int .i64 k)).run Tryd.prog w = .ok (.agg #[.int .i32 (lo k), .int .i32 (hi k), .int .i64 (wk k)]) w := by
  rcases cases15 hk with rfl | rfl | rfl | rfl | rfl | rfl | rfl | rfl | rfl | rfl | rfl | rfl | rfl | rfl | rfl <;> kernel_rfl

theorem ret_int {k : IntKind} {a b : Int} (h : a = b) : Ending.returned (.int k a) = .returned (.int k b) := by rw [h]
theorem ret_bool {a b : Bool} (h : a = b) : Ending.returned (.bool a) = .returned (.bool b) := by rw [h]

theorem of (r : Int) (w : World) (hT : Tab w) :
    Calls Tryd.prog 25 #[.int .i32 r] w fun e w' => e = .returned (.int .i64 (wd r)) ∧ Below w.heap.size w w' := by
  have HT := Lib.hid hT
  clear hT
  go_enter Tryd.func25, Tryd.ntmps25
  go_wp2_with (refine wpList_load_mid rfl 74 _ rfl 0 0 rfl spansA.toList _ HT.out Tryd.underlying74 rfl (by kernel_rfl) ?_)
  have hpos := HT.out.pos
  go_loopw [6] (fun i wr => ∃ k : Nat, k ≤ 15 ∧ i = .int .i64 k ∧ (∀ j, j < k → ¬ (lo j ≤ r ∧ r ≤ hi j)) ∧ Below w.heap.size w wr) (fun i _ => 15 - (intOf i).toNat)
  case atStart => exact ⟨0, Nat.zero_le _, rfl, fun j hj => absurd hj (by omega), Below.refl _ _⟩
  case round =>
    obtain ⟨k, hk, rfl, hno, hbel⟩ := hrel
    have HN := Lib.hid hno
    have HB := Lib.hid hbel
    have hsz := hbel.size
    clear hno hbel
    by_cases hlt : k < 15
    · have hx := idx k hlt
      go_wp2
      · go_ret
        exact ⟨ret_int (wd_at k hlt r (by assumption) (by assumption)).symm, HB.out.alloc (by omega) _⟩
      all_goals
        go_roundw
        case rel => exact ⟨k + 1, by omega, by go_num, fun j hj => (by
          by_cases h : j < k
          · exact HN.out j h
          · obtain rfl : j = k := by omega
            omega), HB.out.alloc (by omega) _⟩
        case measure => simp [intOf]; omega
    · obtain rfl : k = 15 := by omega
      go_wp2
      go_ret
      exact ⟨ret_int (wd_one r HN.out).symm, HB.out⟩

/-- Is a rune one of some? -/
def inR (r a b : Int) : Bool := decide (a ≤ r ∧ r ≤ b)
theorem inR_yes {r a b : Int} (h1 : a ≤ r) (h2 : r ≤ b) : inR r a b = true := by simp [inR, h1, h2]
theorem inR_lo {r a b : Int} (h : r < a) : inR r a b = false := by simp [inR]; omega
theorem inR_hi {r a b : Int} (h : b < r) : inR r a b = false := by simp [inR]; omega

end Go.Proofs.YtnbpkabnaipimaaDoor
