/- The contracts of the reference's value and whole at one to four bytes. Conditions: the bytes lie in memory. -/
import Derived.Test.YtcpfillmdkhjlaaDoorWalkE
namespace Go.Proofs.YtcpfillmdkhjlaaDoor
open Go Go.RowKit Go.Lib

theorem ret_two {k : IntKind} {a b : Int} {c d : Bool} (h : (a, c) = (b, d)) : Ending.returned (.tuple #[.int k a, .bool c]) = .returned (.tuple #[.int k b, .bool d]) := by
  cases h; rfl

/-- A byte that goes on. -/
def Goes (x : Nat) : Prop := 128 ≤ x ∧ x ≤ 191

def value1 (x0 : Nat) : Int × Bool := (x0, decide (x0 < 128))
def value2 (x0 x1 : Nat) : Int × Bool := if (192 ≤ x0 ∧ x0 < 224) ∧ (128 ≤ x1 ∧ x1 ≤ 191) then (64 * ((x0 : Int) - 192) + x1 - 128, true) else (0, false)
def value3 (x0 x1 x2 : Nat) : Int × Bool := if (224 ≤ x0 ∧ x0 < 240) ∧ (128 ≤ x1 ∧ x1 ≤ 191) ∧ (128 ≤ x2 ∧ x2 ≤ 191) then (64 * (64 * ((x0 : Int) - 224) + x1 - 128) + x2 - 128, true) else (0, false)
def value4 (x0 x1 x2 x3 : Nat) : Int × Bool := if (240 ≤ x0 ∧ x0 < 248) ∧ (128 ≤ x1 ∧ x1 ≤ 191) ∧ (128 ≤ x2 ∧ x2 ≤ 191) ∧ (128 ≤ x3 ∧ x3 ≤ 191) then (64 * (64 * (64 * ((x0 : Int) - 240) + x1 - 128) + x2 - 128) + x3 - 128, true) else (0, false)

theorem refValue1 (b off cap x0 : Nat) (w : World) (l0 : x0 < 256) (c0 : w.cell? ⟨b, off, none⟩ = some (.int .u8 x0)) :
    Calls Tryd.prog 27 #[.slice (some ⟨b, off, none⟩) 1 cap] w fun e w' => e = .returned (.tuple #[.int .i32 (value1 x0).1, .bool (value1 x0).2]) ∧ w = w' := by
  go_enter Tryd.func27, Tryd.ntmps27
  go_wp2
  all_goals
    go_ret2
    refine ⟨ret_two ?_, rfl⟩
    unfold value1
    simp
    try omega

set_option maxHeartbeats 1000000 in
set_option maxRecDepth 100000 in
theorem refValue2 (b off cap x0 x1 : Nat) (w : World) (l0 : x0 < 256) (l1 : x1 < 256) (c0 : w.cell? ⟨b, off, none⟩ = some (.int .u8 x0)) (c1 : w.cell? ⟨b, off + 1, none⟩ = some (.int .u8 x1)) :
    Calls Tryd.prog 27 #[.slice (some ⟨b, off, none⟩) 2 cap] w fun e w' => e = .returned (.tuple #[.int .i32 (value2 x0 x1).1, .bool (value2 x0 x1).2]) ∧ w = w' := by
  by_cases h0 : 192 ≤ x0 ∧ x0 < 224
  · obtain ⟨h1, h2⟩ := h0
    have h1' : ¬ (x0 : Int) < 192 := by omega
    have h2' : (x0 : Int) < 224 := by omega
    go_enter Tryd.func27, Tryd.ntmps27
    go_wp2
    go_loop [6, 9] (fun r i => (i = .int .i64 1 ∧ r = .int .i32 ((x0 : Int) - 192)) ∨ ((128 ≤ x1 ∧ x1 ≤ 191) ∧ i = .int .i64 2 ∧ r = .int .i32 (64 * ((x0 : Int) - 192) + x1 - 128))) (fun _ i => 2 - (RowKit.intOf i).toNat)
    case atStart => exact .inl ⟨rfl, rfl⟩
    case round =>
      rcases hrel with ⟨rfl, rfl⟩ | ⟨⟨g1, g1'⟩, rfl, rfl⟩
      · by_cases a1 : x1 < 128
        · have a1' : (x1 : Int) < 128 := by omega
          go_wp2
          go_ret2
          refine ⟨ret_two ?_, rfl⟩
          unfold value2
          rw [if_neg (by omega)]
        · by_cases e1 : 191 < x1
          · have a1' : ¬ (x1 : Int) < 128 := by omega
            have e1' : (191 : Int) < (x1 : Int) := by omega
            go_wp2
            go_ret2
            refine ⟨ret_two ?_, rfl⟩
            unfold value2
            rw [if_neg (by omega)]
          · have a1' : ¬ (x1 : Int) < 128 := by omega
            have e1' : ¬ (191 : Int) < (x1 : Int) := by omega
            go_wp2
            go_round
            case rel => exact (.inr ⟨⟨by omega, by omega⟩, rfl, rfl⟩)
            case measure => simp [RowKit.intOf]
      · go_wp2
        go_ret2
        refine ⟨ret_two ?_, rfl⟩
        unfold value2
        rw [if_pos (by omega)]
  · have e : value2 x0 x1 = (0, false) := by unfold value2; rw [if_neg (by omega)]
    rw [e]
    rcases (show x0 < 192 ∨ 224 ≤ x0 by omega) with h1 | h1
    · have h1' : (x0 : Int) < 192 := by omega
      go_enter Tryd.func27, Tryd.ntmps27
      go_wp2
      go_ret2
      exact ⟨rfl, rfl⟩
    · have h1' : ¬ (x0 : Int) < 192 := by omega
      have h2' : ¬ (x0 : Int) < 224 := by omega
      go_enter Tryd.func27, Tryd.ntmps27
      go_wp2
      go_ret2
      exact ⟨rfl, rfl⟩

set_option maxHeartbeats 1000000 in
set_option maxRecDepth 100000 in
theorem refValue3 (b off cap x0 x1 x2 : Nat) (w : World) (l0 : x0 < 256) (l1 : x1 < 256) (l2 : x2 < 256) (c0 : w.cell? ⟨b, off, none⟩ = some (.int .u8 x0)) (c1 : w.cell? ⟨b, off + 1, none⟩ = some (.int .u8 x1)) (c2 : w.cell? ⟨b, off + 2, none⟩ = some (.int .u8 x2)) :
    Calls Tryd.prog 27 #[.slice (some ⟨b, off, none⟩) 3 cap] w fun e w' => e = .returned (.tuple #[.int .i32 (value3 x0 x1 x2).1, .bool (value3 x0 x1 x2).2]) ∧ w = w' := by
  by_cases h0 : 224 ≤ x0 ∧ x0 < 240
  · obtain ⟨h1, h2⟩ := h0
    have h1' : ¬ (x0 : Int) < 224 := by omega
    have h2' : (x0 : Int) < 240 := by omega
    go_enter Tryd.func27, Tryd.ntmps27
    go_wp2
    go_loop [6, 9] (fun r i => (i = .int .i64 1 ∧ r = .int .i32 ((x0 : Int) - 224)) ∨ ((128 ≤ x1 ∧ x1 ≤ 191) ∧ i = .int .i64 2 ∧ r = .int .i32 (64 * ((x0 : Int) - 224) + x1 - 128)) ∨ ((128 ≤ x1 ∧ x1 ≤ 191) ∧ (128 ≤ x2 ∧ x2 ≤ 191) ∧ i = .int .i64 3 ∧ r = .int .i32 (64 * (64 * ((x0 : Int) - 224) + x1 - 128) + x2 - 128))) (fun _ i => 3 - (RowKit.intOf i).toNat)
    case atStart => exact .inl ⟨rfl, rfl⟩
    case round =>
      rcases hrel with ⟨rfl, rfl⟩ | ⟨⟨g1, g1'⟩, rfl, rfl⟩ | ⟨⟨g1, g1'⟩, ⟨g2, g2'⟩, rfl, rfl⟩
      · by_cases a1 : x1 < 128
        · have a1' : (x1 : Int) < 128 := by omega
          go_wp2
          go_ret2
          refine ⟨ret_two ?_, rfl⟩
          unfold value3
          rw [if_neg (by omega)]
        · by_cases e1 : 191 < x1
          · have a1' : ¬ (x1 : Int) < 128 := by omega
            have e1' : (191 : Int) < (x1 : Int) := by omega
            go_wp2
            go_ret2
            refine ⟨ret_two ?_, rfl⟩
            unfold value3
            rw [if_neg (by omega)]
          · have a1' : ¬ (x1 : Int) < 128 := by omega
            have e1' : ¬ (191 : Int) < (x1 : Int) := by omega
            go_wp2
            go_round
            case rel => exact (.inr (.inl ⟨⟨by omega, by omega⟩, rfl, rfl⟩))
            case measure => simp [RowKit.intOf]
      · by_cases a2 : x2 < 128
        · have a2' : (x2 : Int) < 128 := by omega
          go_wp2
          go_ret2
          refine ⟨ret_two ?_, rfl⟩
          unfold value3
          rw [if_neg (by omega)]
        · by_cases e2 : 191 < x2
          · have a2' : ¬ (x2 : Int) < 128 := by omega
            have e2' : (191 : Int) < (x2 : Int) := by omega
            go_wp2
            go_ret2
            refine ⟨ret_two ?_, rfl⟩
            unfold value3
            rw [if_neg (by omega)]
          · have a2' : ¬ (x2 : Int) < 128 := by omega
            have e2' : ¬ (191 : Int) < (x2 : Int) := by omega
            go_wp2
            go_round
            case rel => exact (.inr (.inr ⟨⟨by omega, by omega⟩, ⟨by omega, by omega⟩, rfl, rfl⟩))
            case measure => simp [RowKit.intOf]
      · go_wp2
        go_ret2
        refine ⟨ret_two ?_, rfl⟩
        unfold value3
        rw [if_pos (by omega)]
  · have e : value3 x0 x1 x2 = (0, false) := by unfold value3; rw [if_neg (by omega)]
    rw [e]
    rcases (show x0 < 224 ∨ 240 ≤ x0 by omega) with h1 | h1
    · have h1' : (x0 : Int) < 224 := by omega
      go_enter Tryd.func27, Tryd.ntmps27
      go_wp2
      go_ret2
      exact ⟨rfl, rfl⟩
    · have h1' : ¬ (x0 : Int) < 224 := by omega
      have h2' : ¬ (x0 : Int) < 240 := by omega
      go_enter Tryd.func27, Tryd.ntmps27
      go_wp2
      go_ret2
      exact ⟨rfl, rfl⟩

set_option maxHeartbeats 1000000 in
set_option maxRecDepth 100000 in
theorem refValue4 (b off cap x0 x1 x2 x3 : Nat) (w : World) (l0 : x0 < 256) (l1 : x1 < 256) (l2 : x2 < 256) (l3 : x3 < 256) (c0 : w.cell? ⟨b, off, none⟩ = some (.int .u8 x0)) (c1 : w.cell? ⟨b, off + 1, none⟩ = some (.int .u8 x1)) (c2 : w.cell? ⟨b, off + 2, none⟩ = some (.int .u8 x2)) (c3 : w.cell? ⟨b, off + 3, none⟩ = some (.int .u8 x3)) :
    Calls Tryd.prog 27 #[.slice (some ⟨b, off, none⟩) 4 cap] w fun e w' => e = .returned (.tuple #[.int .i32 (value4 x0 x1 x2 x3).1, .bool (value4 x0 x1 x2 x3).2]) ∧ w = w' := by
  by_cases h0 : 240 ≤ x0 ∧ x0 < 248
  · obtain ⟨h1, h2⟩ := h0
    have h1' : ¬ (x0 : Int) < 240 := by omega
    have h2' : (x0 : Int) < 248 := by omega
    go_enter Tryd.func27, Tryd.ntmps27
    go_wp2
    go_loop [6, 9] (fun r i => (i = .int .i64 1 ∧ r = .int .i32 ((x0 : Int) - 240)) ∨ ((128 ≤ x1 ∧ x1 ≤ 191) ∧ i = .int .i64 2 ∧ r = .int .i32 (64 * ((x0 : Int) - 240) + x1 - 128)) ∨ ((128 ≤ x1 ∧ x1 ≤ 191) ∧ (128 ≤ x2 ∧ x2 ≤ 191) ∧ i = .int .i64 3 ∧ r = .int .i32 (64 * (64 * ((x0 : Int) - 240) + x1 - 128) + x2 - 128)) ∨ ((128 ≤ x1 ∧ x1 ≤ 191) ∧ (128 ≤ x2 ∧ x2 ≤ 191) ∧ (128 ≤ x3 ∧ x3 ≤ 191) ∧ i = .int .i64 4 ∧ r = .int .i32 (64 * (64 * (64 * ((x0 : Int) - 240) + x1 - 128) + x2 - 128) + x3 - 128))) (fun _ i => 4 - (RowKit.intOf i).toNat)
    case atStart => exact .inl ⟨rfl, rfl⟩
    case round =>
      rcases hrel with ⟨rfl, rfl⟩ | ⟨⟨g1, g1'⟩, rfl, rfl⟩ | ⟨⟨g1, g1'⟩, ⟨g2, g2'⟩, rfl, rfl⟩ | ⟨⟨g1, g1'⟩, ⟨g2, g2'⟩, ⟨g3, g3'⟩, rfl, rfl⟩
      · by_cases a1 : x1 < 128
        · have a1' : (x1 : Int) < 128 := by omega
          go_wp2
          go_ret2
          refine ⟨ret_two ?_, rfl⟩
          unfold value4
          rw [if_neg (by omega)]
        · by_cases e1 : 191 < x1
          · have a1' : ¬ (x1 : Int) < 128 := by omega
            have e1' : (191 : Int) < (x1 : Int) := by omega
            go_wp2
            go_ret2
            refine ⟨ret_two ?_, rfl⟩
            unfold value4
            rw [if_neg (by omega)]
          · have a1' : ¬ (x1 : Int) < 128 := by omega
            have e1' : ¬ (191 : Int) < (x1 : Int) := by omega
            go_wp2
            go_round
            case rel => exact (.inr (.inl ⟨⟨by omega, by omega⟩, rfl, rfl⟩))
            case measure => simp [RowKit.intOf]
      · by_cases a2 : x2 < 128
        · have a2' : (x2 : Int) < 128 := by omega
          go_wp2
          go_ret2
          refine ⟨ret_two ?_, rfl⟩
          unfold value4
          rw [if_neg (by omega)]
        · by_cases e2 : 191 < x2
          · have a2' : ¬ (x2 : Int) < 128 := by omega
            have e2' : (191 : Int) < (x2 : Int) := by omega
            go_wp2
            go_ret2
            refine ⟨ret_two ?_, rfl⟩
            unfold value4
            rw [if_neg (by omega)]
          · have a2' : ¬ (x2 : Int) < 128 := by omega
            have e2' : ¬ (191 : Int) < (x2 : Int) := by omega
            go_wp2
            go_round
            case rel => exact (.inr (.inr (.inl ⟨⟨by omega, by omega⟩, ⟨by omega, by omega⟩, rfl, rfl⟩)))
            case measure => simp [RowKit.intOf]
      · by_cases a3 : x3 < 128
        · have a3' : (x3 : Int) < 128 := by omega
          go_wp2
          go_ret2
          refine ⟨ret_two ?_, rfl⟩
          unfold value4
          rw [if_neg (by omega)]
        · by_cases e3 : 191 < x3
          · have a3' : ¬ (x3 : Int) < 128 := by omega
            have e3' : (191 : Int) < (x3 : Int) := by omega
            go_wp2
            go_ret2
            refine ⟨ret_two ?_, rfl⟩
            unfold value4
            rw [if_neg (by omega)]
          · have a3' : ¬ (x3 : Int) < 128 := by omega
            have e3' : ¬ (191 : Int) < (x3 : Int) := by omega
            go_wp2
            go_round
            case rel => exact (.inr (.inr (.inr ⟨⟨by omega, by omega⟩, ⟨by omega, by omega⟩, ⟨by omega, by omega⟩, rfl, rfl⟩)))
            case measure => simp [RowKit.intOf]
      · go_wp2
        go_ret2
        refine ⟨ret_two ?_, rfl⟩
        unfold value4
        rw [if_pos (by omega)]
  · have e : value4 x0 x1 x2 x3 = (0, false) := by unfold value4; rw [if_neg (by omega)]
    rw [e]
    rcases (show x0 < 240 ∨ 248 ≤ x0 by omega) with h1 | h1
    · have h1' : (x0 : Int) < 240 := by omega
      go_enter Tryd.func27, Tryd.ntmps27
      go_wp2
      go_ret2
      exact ⟨rfl, rfl⟩
    · have h1' : ¬ (x0 : Int) < 240 := by omega
      have h2' : ¬ (x0 : Int) < 248 := by omega
      go_enter Tryd.func27, Tryd.ntmps27
      go_wp2
      go_ret2
      exact ⟨rfl, rfl⟩

end Go.Proofs.YtcpfillmdkhjlaaDoor
