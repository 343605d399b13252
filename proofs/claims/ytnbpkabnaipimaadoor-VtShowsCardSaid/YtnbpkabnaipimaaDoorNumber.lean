/- The contract of the reference's number: its digits behind bytes of the caller's own. Conditions: a number from 0 to 99. -/
import Derived.Test.YtnbpkabnaipimaaDoorData
import Derived.Test.YtnbpkabnaipimaaDoorBytes
namespace Go.Proofs.YtnbpkabnaipimaaDoor
open Go Go.RowKit

def byV (l : List Int) : List Value := l.map (Value.int .u8)
theorem byV_append (l m : List Int) : byV (l ++ m) = byV l ++ byV m := by simp [byV]
theorem byV_one (l : List Int) : ∀ u ∈ byV l, u.oneCell' = true := by
  intro u hu
  obtain ⟨x, _, rfl⟩ := List.mem_map.1 hu
  rfl
theorem byV_len (l : List Int) : (byV l).length = l.length := by simp [byV]

theorem digits_small {n : Int} (h0 : 0 ≤ n) (h : n ≤ 9) : digits n = [48 + n % 10] := by unfold digits; rw [if_neg (by omega)]; rfl
theorem digits_great {n : Int} (h : 9 < n) : digits n = [48 + n / 10] ++ [48 + n % 10] := by unfold digits; rw [if_pos h]

theorem grow_below {B m : Nat} {v : Value} {xs : List Value} {w w2 : World} {o : Obj} (hO : w.ownsRow B 5 1 v m xs) (hB : B ≤ w.heap.size) (hg : (w.alloc o).grownBy w2 v.ownBlock) : Below B w w2 :=
  ((Below.refl _ _).alloc hB o).grown hg (by simp; omega) (fun k hk => (hO.lt k hk).1)

end Go.Proofs.YtnbpkabnaipimaaDoor
