/- The contract of the reference's number: its digits behind bytes of the caller's own. Conditions: a number from 0 to 99. -/
import Derived.Test.YtnbpkabnaipimaaGreatDoorData
import Derived.Test.YtnbpkabnaipimaaGreatDoorBytes
namespace Go.Proofs.YtnbpkabnaipimaaGreatDoor
open Go Go.RowKit

def byV (l : List Int) : List Value := l.map (Value.int .u8)
theorem byV_append (l m : List Int) : byV (l ++ m) = byV l ++ byV m := by simp [byV]
theorem byV_one (l : List Int) : ∀ u ∈ byV l, u.oneCell' = true := by
  intro u hu
  obtain ⟨x, _, rfl⟩ := List.mem_map.1 hu
  rfl
theorem byV_len (l : List Int) : (byV l).length = l.length := by simp [byV]

theorem digits_small {n : Int} (h0 : 0 ≤ n) (h : n ≤ 9) : digits n = [48 + n % 10] := by unfold digits; rw [if_neg (by omega)]; rfl
theorem digits_great {n : Int} (h : 9 < n) : digits n = [48 + n / 10] ++ [48 + n % 10] := by unfold digits; rw [if_pos h]

theorem grow_below {B m : Nat} {v : Value} {xs : List Value} {w w2 : World} {o : Obj} (hO : w.ownsRow B 5 1 v m xs) (hB : B ≤ w.heap.size) (hg : (w.alloc o).grownBy w2 v.ownBlock) : Below B w w2 :=
  ((Below.refl _ _).alloc hB o).grown hg (by simp; omega) (fun k hk => (hO.lt k hk).1)

set_option maxHeartbeats 1600000 in
theorem number (B : Nat) (v : Value) (m : Nat) (xs : List Value) (n : Int) (h0 : 0 ≤ n) (h99 : n ≤ 99) (w : World) (hown : w.ownsRow B 5 1 v m xs) (hm : m + 2 ≤ 70368744177664) (hB : B ≤ w.heap.size) :
    Calls Tryz.prog 36 #[v, .int .i64 n] w fun e w' => ∃ v', e = .returned v' ∧ w'.ownsRow B 5 1 v' (m + (digits n).length) (xs ++ byV (digits n)) ∧ Below B w w' := by
  obtain ⟨i0, hi, hz0, hz1, hz2⟩ := info_parts Tryz.info5
  have HO := Lib.hid hown; clear hown
  by_cases h9 : 9 < n
  · rw [digits_great h9]
    go_enter Tryz.func36, Tryz.ntmps36
    go_wp2_with (at_builtin; refine wpList_append_own _ rfl _ _ 26 rfl B 5 i0 (.int .u8 0) 1 1 Tryz.underlying26 hi hz0 hz1 hz2 rfl (by decide) _ _ _ rfl (HO.out.alloc _) ⟨w.heap.size, 0, none⟩ 1 1 [.int .u8 (48 + n / 10)] rfl rfl (new_cells _ _ _) (by intro u hu; simp at hu; subst hu; rfl) (by unfold maxLen; omega) (by omega) (by simp; omega) ?_)
    intro v1 w1 hown1 hg _
    have hb1 := grow_below HO.out hB hg
    have HO1 := Lib.hid hown1
    clear hown1 hg
    have hs1 := hb1.size
    go_wp2_with (at_builtin; refine wpList_append_own _ rfl _ _ 26 rfl B 5 i0 (.int .u8 0) 1 1 Tryz.underlying26 hi hz0 hz1 hz2 rfl (by decide) _ _ _ rfl (HO1.out.alloc _) ⟨w1.heap.size, 0, none⟩ 1 1 [.int .u8 (48 + n % 10)] rfl rfl (new_cells _ _ _) (by intro u hu; simp at hu; subst hu; rfl) (by unfold maxLen; omega) (by omega) (by simp; omega) ?_)
    intro v2 w2 hown2 hg _
    have hb2 := grow_below HO1.out (by omega) hg
    have HO2 := Lib.hid hown2
    clear hown2 hg
    go_wp2
    go_ret
    exact ⟨_, rfl, HO2.out, hb1.trans hb2⟩
  · rw [digits_small h0 (by omega)]
    go_enter Tryz.func36, Tryz.ntmps36
    go_wp2_with (at_builtin; refine wpList_append_own _ rfl _ _ 26 rfl B 5 i0 (.int .u8 0) 1 1 Tryz.underlying26 hi hz0 hz1 hz2 rfl (by decide) _ _ _ rfl (HO.out.alloc _) ⟨w.heap.size, 0, none⟩ 1 1 [.int .u8 (48 + n % 10)] rfl rfl (new_cells _ _ _) (by intro u hu; simp at hu; subst hu; rfl) (by unfold maxLen; omega) (by omega) (by simp; omega) ?_)
    intro v1 w1 hown1 hg _
    have hb1 := grow_below HO.out hB hg
    have HO1 := Lib.hid hown1
    clear hown1 hg
    go_wp2
    go_ret
    exact ⟨_, rfl, HO1.out, hb1⟩
end Go.Proofs.YtnbpkabnaipimaaGreatDoor
