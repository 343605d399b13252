/- Contracts of the width of runes (Text) and of how many fit (Fit), told by the program and by the reference. Conditions: the runes lie in memory, not more than 2^40 of them; of the program's: the table holds what its initialiser lays. -/
import Derived.Test.YtdeckkmlcbbjcaaDoorMath
namespace Go.Proofs.YtdeckkmlcbbjcaaDoor
open Go Go.RowKit

/-- A slice of runes: what lies in memory. Of an empty one nothing is known but that it is empty. -/
def SeqAt (w : World) (a : Option Addr) (n : Nat) (zs : List Int) : Prop :=
  zs.length = n ∧ (n = 0 ∨ ∃ b off, a = some ⟨b, off, none⟩ ∧ b < w.heap.size ∧ ∀ j z, zs[j]? = some z → w.cell? ⟨b, off + j, none⟩ = some (.int .i32 z))
theorem SeqAt.below {w w' : World} {a : Option Addr} {n m : Nat} {zs : List Int} (h : SeqAt w a n zs) (hm : w.heap.size ≤ m) (hb : Below m w w') : SeqAt w' a n zs := by
  refine ⟨h.1, ?_⟩
  rcases h.2 with h0 | ⟨b, off, rfl, hlt, hc⟩
  · exact .inl h0
  · exact .inr ⟨b, off, rfl, Nat.lt_of_lt_of_le hlt hb.size, fun j z hz => (hb.cell (by show b < m; omega)).trans (hc j z hz)⟩

theorem text_none (a : Option Addr) (cap : Nat) (w : World) :
    Calls Tryd.prog 8 #[.slice a 0 cap] w fun e w' => e = .returned (.int .i64 0) ∧ Below w.heap.size w w' := by
  go_enter Tryd.func8, Tryd.ntmps8
  go_wp2
  go_loop [3, 8] (fun s i => s = .int .i64 0 ∧ i = .int .i64 0) (fun _ _ => 0)
  case atStart => exact ⟨rfl, rfl⟩
  case round =>
    obtain ⟨rfl, rfl⟩ := hrel
    go_wp2
    go_ret
    exact ⟨rfl, Below.refl _ _⟩

set_option maxHeartbeats 1000000 in
theorem text_cells (b off n cap : Nat) (zs : List Int) (w : World) (hn : n ≤ 1099511627776) (hz : zs.length = n) (hbw : b < w.heap.size) (hT : Tab w)
    (hc : ∀ j z, zs[j]? = some z → w.cell? ⟨b, off + j, none⟩ = some (.int .i32 z)) :
    Calls Tryd.prog 8 #[.slice (some ⟨b, off, none⟩) n cap] w fun e w' => e = .returned (.int .i64 (sw zs)) ∧ Below w.heap.size w w' := by
  have hp := hT.pos
  have HT := Lib.hid hT
  have HZ := Lib.hid hz
  have HC := Lib.hid hc
  clear hT hz hc
  go_enter Tryd.func8, Tryd.ntmps8
  go_wp2
  go_loopw [3, 8] (fun s i wr => ∃ k : Nat, k ≤ n ∧ i = .int .i64 k ∧ s = .int .i64 (sw (zs.take k)) ∧ Below w.heap.size w wr) (fun _ i _ => n - (intOf i).toNat)
  case atStart => exact ⟨0, Nat.zero_le _, rfl, rfl, Below.refl _ _⟩
  case round =>
    obtain ⟨k, hk, rfl, rfl, hbel⟩ := hrel
    have HB := Lib.hid hbel
    clear hbel
    by_cases hlt : k < n
    · obtain ⟨z, hz⟩ : ∃ z, zs[k]? = some z := ⟨zs[k]'(by have := HZ.out; omega), by simp⟩
      have c1 : wr.cell? ⟨b, off + k, none⟩ = some (.int .i32 z) := (HB.out.cell (by exact hbw)).trans (HC.out k z hz)
      have HS := Lib.hid (sw_snoc zs k z hz)
      have sb := sw_bounds (zs.take k)
      have sl : (zs.take k).length ≤ k := List.length_take_le _ _
      have wb := wd_bounds z
      clear hz
      go_wp2_with ((go_at_call 6; refine (of z wr (HT.out.below hp HB.out)).mono ?_; rintro e w1 ⟨rfl, b1⟩; have B1 := Lib.hid (HB.out.trans (b1.mono HB.out.size)); clear b1))
      go_roundw
      case rel => exact ⟨k + 1, by omega, by go_num, by rw [HS.out], B1.out⟩
      case measure => simp [intOf]; omega
    · go_wp2
      go_ret
      exact ⟨ret_int (by rw [List.take_of_length_le (by have := HZ.out; omega)]), HB.out⟩

theorem text (a : Option Addr) (n cap : Nat) (zs : List Int) (w : World) (hn : n ≤ 1099511627776) (hT : Tab w) (h : SeqAt w a n zs) :
    Calls Tryd.prog 8 #[.slice a n cap] w fun e w' => e = .returned (.int .i64 (sw zs)) ∧ Below w.heap.size w w' := by
  obtain ⟨hl, rfl | ⟨b, off, rfl, hlt, hc⟩⟩ := h
  · obtain rfl : zs = [] := List.eq_nil_of_length_eq_zero hl
    exact text_none a cap w
  · exact text_cells b off n cap zs w hn hl hlt hT hc

theorem refText_none (a : Option Addr) (cap : Nat) (w : World) :
    Calls Tryd.prog 9 #[.slice a 0 cap] w fun e w' => e = .returned (.int .i64 0) ∧ w = w' := by
  go_enter Tryd.func9, Tryd.ntmps9
  go_wp2
  go_loop [3, 4] (fun s i => s = .int .i64 0 ∧ i = .int .i64 0) (fun _ _ => 0)
  case atStart => exact ⟨rfl, rfl⟩
  case round =>
    obtain ⟨rfl, rfl⟩ := hrel
    go_wp2
    go_ret
    exact ⟨rfl, rfl⟩

set_option maxHeartbeats 1000000 in
theorem refText_cells (b off n cap : Nat) (zs : List Int) (w : World) (hn : n ≤ 1099511627776) (hz : zs.length = n)
    (hc : ∀ j z, zs[j]? = some z → w.cell? ⟨b, off + j, none⟩ = some (.int .i32 z)) :
    Calls Tryd.prog 9 #[.slice (some ⟨b, off, none⟩) n cap] w fun e w' => e = .returned (.int .i64 (sw zs)) ∧ w = w' := by
  have HZ := Lib.hid hz
  have HC := Lib.hid hc
  clear hz hc
  go_enter Tryd.func9, Tryd.ntmps9
  go_wp2
  go_loop [3, 4] (fun s i => ∃ k : Nat, k ≤ n ∧ i = .int .i64 k ∧ s = .int .i64 (sw (zs.take k))) (fun _ i => n - (intOf i).toNat)
  case atStart => exact ⟨0, Nat.zero_le _, rfl, rfl⟩
  case round =>
    obtain ⟨k, hk, rfl, rfl⟩ := hrel
    by_cases hlt : k < n
    · obtain ⟨z, hz⟩ : ∃ z, zs[k]? = some z := ⟨zs[k]'(by have := HZ.out; omega), by simp⟩
      have c1 : w.cell? ⟨b, off + k, none⟩ = some (.int .i32 z) := HC.out k z hz
      have HS := Lib.hid (sw_snoc zs k z hz)
      have sb := sw_bounds (zs.take k)
      have sl : (zs.take k).length ≤ k := List.length_take_le _ _
      have wb := wd_bounds z
      have hk0 : (0 : Int) ≤ (k : Int) := by omega
      have hltz : (k : Int) < (n : Int) := by omega
      clear hz
      go_wp2_with ((go_at_call 7; refine (refOf _ _).mono ?_; rintro e w1 ⟨rfl, rfl⟩))
      go_round
      case rel => exact ⟨k + 1, by omega, by go_num, by rw [HS.out]⟩
      case measure => simp [intOf]; omega
    · go_wp2
      go_ret
      exact ⟨ret_int (by rw [List.take_of_length_le (by have := HZ.out; omega)]), rfl⟩

theorem refText (a : Option Addr) (n cap : Nat) (zs : List Int) (w : World) (hn : n ≤ 1099511627776) (h : SeqAt w a n zs) :
    Calls Tryd.prog 9 #[.slice a n cap] w fun e w' => e = .returned (.int .i64 (sw zs)) ∧ w = w' := by
  obtain ⟨hl, rfl | ⟨b, off, rfl, hlt, hc⟩⟩ := h
  · obtain rfl : zs = [] := List.eq_nil_of_length_eq_zero hl
    exact refText_none a cap w
  · exact refText_cells b off n cap zs w hn hl hc

theorem fit_neg (a : Option Addr) (n cap : Nat) (zs : List Int) (c : Int) (w : World) (hc : c < 0) :
    Calls Tryd.prog 10 #[.slice a n cap, .int .i64 c] w fun e w' => e = .returned (.int .i64 (fitZ zs c)) ∧ Below w.heap.size w w' := by
  go_enter Tryd.func10, Tryd.ntmps10
  go_wp2
  go_ret
  exact ⟨ret_int (by unfold fitZ; rw [if_pos hc]; rfl), Below.refl _ _⟩

theorem fit_none (a : Option Addr) (cap : Nat) (c : Int) (w : World) (hc : 0 ≤ c) :
    Calls Tryd.prog 10 #[.slice a 0 cap, .int .i64 c] w fun e w' => e = .returned (.int .i64 0) ∧ Below w.heap.size w w' := by
  have hn : ¬ c < 0 := by omega
  go_enter Tryd.func10, Tryd.ntmps10
  go_wp2
  go_loop [1, 11] (fun s i => s = .int .i64 c ∧ i = .int .i64 0) (fun _ _ => 0)
  case atStart => exact ⟨rfl, rfl⟩
  case round =>
    obtain ⟨rfl, rfl⟩ := hrel
    go_wp2
    go_ret
    exact ⟨rfl, Below.refl _ _⟩

set_option maxHeartbeats 1000000 in
theorem fit_cells (b off n cap : Nat) (zs : List Int) (c : Int) (w : World) (hn : n ≤ 1099511627776) (hc0 : 0 ≤ c) (hc1 : c ≤ 9223372036854775807) (hz : zs.length = n) (hbw : b < w.heap.size) (hT : Tab w)
    (hc : ∀ j z, zs[j]? = some z → w.cell? ⟨b, off + j, none⟩ = some (.int .i32 z)) :
    Calls Tryd.prog 10 #[.slice (some ⟨b, off, none⟩) n cap, .int .i64 c] w fun e w' => e = .returned (.int .i64 (fitL zs c)) ∧ Below w.heap.size w w' := by
  have hp := hT.pos
  have HT := Lib.hid hT
  have HZ := Lib.hid hz
  have HC := Lib.hid hc
  have hneg : ¬ c < 0 := by omega
  clear hT hz hc
  go_enter Tryd.func10, Tryd.ntmps10
  go_wp2
  go_loopw [1, 11] (fun s i wr => ∃ k : Nat, k ≤ n ∧ i = .int .i64 k ∧ sw (zs.take k) ≤ c ∧ s = .int .i64 (c - sw (zs.take k)) ∧ Below w.heap.size w wr) (fun _ i _ => n - (intOf i).toNat)
  case atStart => exact ⟨0, Nat.zero_le _, rfl, by simpa [sw] using hc0, by simp [sw], Below.refl _ _⟩
  case round =>
    obtain ⟨k, hk, rfl, hle, rfl, hbel⟩ := hrel
    have HB := Lib.hid hbel
    clear hbel
    by_cases hlt : k < n
    · obtain ⟨z, hz⟩ : ∃ z, zs[k]? = some z := ⟨zs[k]'(by have := HZ.out; omega), by simp⟩
      have c1 : wr.cell? ⟨b, off + k, none⟩ = some (.int .i32 z) := (HB.out.cell (by exact hbw)).trans (HC.out k z hz)
      have HS := Lib.hid (sw_snoc zs k z hz)
      have sb := sw_bounds (zs.take k)
      have wb := wd_bounds z
      clear hz
      by_cases hlow : c - sw (zs.take k) - wd z < 0
      · go_wp2_with ((go_at_call 6; refine (of z wr (HT.out.below hp HB.out)).mono ?_; rintro e w1 ⟨rfl, b1⟩; have B1 := Lib.hid (HB.out.trans (b1.mono HB.out.size)); clear b1))
        go_ret
        exact ⟨ret_int (by rw [fitL_stop zs c hc0 k (by have := HZ.out; omega) hle (fun _ => by rw [HS.out]; omega)]), B1.out⟩
      · go_wp2_with ((go_at_call 6; refine (of z wr (HT.out.below hp HB.out)).mono ?_; rintro e w1 ⟨rfl, b1⟩; have B1 := Lib.hid (HB.out.trans (b1.mono HB.out.size)); clear b1))
        go_roundw
        case rel => exact ⟨k + 1, by omega, by go_num, by rw [HS.out]; omega, by rw [HS.out]; go_num, B1.out⟩
        case measure => simp [intOf]; omega
    · go_wp2
      go_ret
      exact ⟨ret_int (by rw [fitL_stop zs c hc0 n (by have := HZ.out; omega) (by rw [show n = k by omega]; exact hle) (fun h => by have := HZ.out; omega)]), HB.out⟩

theorem fit (a : Option Addr) (n cap : Nat) (zs : List Int) (c : Int) (w : World) (hn : n ≤ 1099511627776) (hc1 : c ≤ 9223372036854775807) (hT : Tab w) (h : SeqAt w a n zs) :
    Calls Tryd.prog 10 #[.slice a n cap, .int .i64 c] w fun e w' => e = .returned (.int .i64 (fitZ zs c)) ∧ Below w.heap.size w w' := by
  by_cases hc : c < 0
  · exact fit_neg a n cap zs c w hc
  · obtain ⟨hl, rfl | ⟨b, off, rfl, hlt, hx⟩⟩ := h
    · obtain rfl : zs = [] := List.eq_nil_of_length_eq_zero hl
      have e : fitZ [] c = 0 := by unfold fitZ; rw [if_neg hc]; rfl
      rw [e]
      exact fit_none a cap c w (by omega)
    · have e : fitZ zs c = fitL zs c := by unfold fitZ; rw [if_neg hc]
      rw [e]
      exact fit_cells b off n cap zs c w hn (by omega) hc1 hl hlt hT hx
end Go.Proofs.YtdeckkmlcbbjcaaDoor
