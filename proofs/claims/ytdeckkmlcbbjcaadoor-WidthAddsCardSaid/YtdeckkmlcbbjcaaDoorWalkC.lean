/- The contract of the reference's Fit. Conditions: the runes lie in memory, not more than 2^40 of them. -/
import Derived.Test.YtdeckkmlcbbjcaaDoorWalkB
import Derived.WalkSpells
namespace Go.Proofs.YtdeckkmlcbbjcaaDoor
open Go Go.RowKit

theorem SeqAt.take {w : World} {a : Option Addr} {n : Nat} {zs : List Int} (h : SeqAt w a n zs) (k : Nat) (hk : k ≤ n) : SeqAt w a k (zs.take k) := by
  refine ⟨by have := h.1; simp; omega, ?_⟩
  rcases h.2 with h0 | ⟨b, off, rfl, hlt, hc⟩
  · exact .inl (by omega)
  · refine .inr ⟨b, off, rfl, hlt, fun j z hz => hc j z ?_⟩
    rw [List.getElem?_take] at hz
    split at hz
    · exact hz
    · cases hz

set_option maxHeartbeats 1000000 in
theorem refFit_cells (b off n cap : Nat) (zs : List Int) (c : Int) (w : World) (hn : n ≤ 1099511627776) (hcap : n ≤ cap) (hz : SeqAt w (some ⟨b, off, none⟩) n zs) :
    Calls Tryd.prog 11 #[.slice (some ⟨b, off, none⟩) n cap, .int .i64 c] w fun e w' => e = .returned (.int .i64 (best zs c (n + 1))) ∧ w = w' := by
  have HZ := Lib.hid hz
  clear hz
  go_enter Tryd.func11, Tryd.ntmps11
  go_wp2
  go_loop [5, 6] (fun s i => ∃ k : Nat, k ≤ n + 1 ∧ i = .int .i64 k ∧ s = .int .i64 (best zs c k)) (fun _ i => n + 1 - (intOf i).toNat)
  case atStart => exact ⟨0, Nat.zero_le _, rfl, rfl⟩
  case round =>
    obtain ⟨k, hk, rfl, rfl⟩ := hrel
    by_cases hlt : k ≤ n
    · have hk0 : (0 : Int) ≤ (k : Int) := by omega
      have hkc : (k : Int) ≤ (cap : Int) := by omega
      by_cases hle : sw (zs.take k) ≤ c
      · go_wp2_with ((go_at_call 9; refine (refText _ k _ (zs.take k) _ (by omega) (HZ.out.take k hlt)).mono ?_; rintro e w1 ⟨rfl, rfl⟩))
        go_round
        case rel => exact ⟨k + 1, by omega, by go_num, by rw [best, if_pos hle]⟩
        case measure => simp [intOf]; omega
      · go_wp2_with ((go_at_call 9; refine (refText _ k _ (zs.take k) _ (by omega) (HZ.out.take k hlt)).mono ?_; rintro e w1 ⟨rfl, rfl⟩))
        go_round
        case rel => exact ⟨k + 1, by omega, by go_num, by rw [best, if_neg (by omega)]⟩
        case measure => simp [intOf]; omega
    · go_wp2
      go_ret
      exact ⟨ret_int (by rw [show n + 1 = k by omega]), rfl⟩

theorem refFit_none (a : Option Addr) (cap : Nat) (c : Int) (w : World) :
    Calls Tryd.prog 11 #[.slice a 0 cap, .int .i64 c] w fun e w' => e = .returned (.int .i64 0) ∧ w = w' := by
  go_enter Tryd.func11, Tryd.ntmps11
  go_wp2
  go_loop [5, 6] (fun s i => ∃ k : Nat, k ≤ 1 ∧ i = .int .i64 k ∧ s = .int .i64 0) (fun _ i => 1 - (intOf i).toNat)
  case atStart => exact ⟨0, Nat.zero_le _, rfl, rfl⟩
  case round =>
    obtain ⟨k, hk, rfl, rfl⟩ := hrel
    by_cases hlt : k ≤ 0
    · obtain rfl : k = 0 := by omega
      go_wp2_with ((go_at_call 9; refine (refText_none _ _ _).mono ?_; rintro e w1 ⟨rfl, rfl⟩))
      all_goals
        go_round
        case rel => exact ⟨1, by omega, rfl, rfl⟩
        case measure => simp [intOf]
    · obtain rfl : k = 1 := by omega
      go_wp2
      go_ret
      exact ⟨rfl, rfl⟩

theorem refFit (a : Option Addr) (n cap : Nat) (zs : List Int) (c : Int) (w : World) (hn : n ≤ 1099511627776) (hcap : n ≤ cap) (h : SeqAt w a n zs) :
    Calls Tryd.prog 11 #[.slice a n cap, .int .i64 c] w fun e w' => e = .returned (.int .i64 (fitZ zs c)) ∧ w = w' := by
  have h' := h
  obtain ⟨hl, rfl | ⟨b, off, rfl, hlt, hx⟩⟩ := h
  · obtain rfl : zs = [] := List.eq_nil_of_length_eq_zero hl
    have e : fitZ [] c = 0 := by unfold fitZ fitL; simp
    rw [e]
    exact refFit_none a cap c w
  · rw [← best_all, hl]
    exact refFit_cells b off n cap zs c w hn hcap h'
end Go.Proofs.YtdeckkmlcbbjcaaDoor
