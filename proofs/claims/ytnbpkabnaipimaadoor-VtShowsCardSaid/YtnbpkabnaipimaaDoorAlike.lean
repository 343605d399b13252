/- The contract of the law's Alike. Condition: both lists of cells lie in memory. -/
import Derived.Test.YtnbpkabnaipimaaDoorData
import Derived.BigRegion
import Derived.Shelf.RegionOpenPlain
namespace Go.Proofs.YtnbpkabnaipimaaDoor
open Go Go.RowKit

theorem take_eq_succ {f t : List Cl} {k : Nat} {x : Cl} (h : f.take k = t.take k) (hx : f[k]? = some x) (hy : t[k]? = some x) : f.take (k + 1) = t.take (k + 1) := by
  rw [List.take_add_one, List.take_add_one, h, hx, hy]

set_option maxHeartbeats 4000000 in
set_option maxRecDepth 20000 in
theorem alike (fa : Option Addr) (fn fc : Nat) (f : List Cl) (ta : Option Addr) (tn tc : Nat) (t : List Cl) (w : World) (hfn : fn ≤ 100000) (hf : RowAt w fa fn f) (ht : RowAt w ta tn t) :
    Calls Tryd.prog 9 #[.slice fa fn fc, .slice ta tn tc] w fun e w' => e = .returned (.bool (decide (f = t))) ∧ Below w.heap.size w w' := by
  have HF := Lib.hid hf
  have HT := Lib.hid ht
  clear hf ht
  by_cases hl : fn = tn
  · subst hl
    go_enter Tryd.func9, Tryd.ntmps9
    go_wp2
    go_loopw [5] (fun i wr => ∃ k : Nat, k ≤ fn ∧ i = .int .i64 k ∧ f.take k = t.take k ∧ Below w.heap.size w wr) (fun i _ => fn - (intOf i).toNat)
    case atStart => exact ⟨0, Nat.zero_le _, rfl, rfl, Below.refl _ _⟩
    case round =>
      obtain ⟨k, hk, rfl, heq, hbel⟩ := hrel
      have HB := Lib.hid hbel
      have HE := Lib.hid heq
      clear hbel heq
      by_cases hlt : k < fn
      · obtain ⟨x, hx⟩ : ∃ x, f[k]? = some x := ⟨f[k]'(by have := HF.out.1; omega), by simp⟩
        obtain ⟨y, hy⟩ : ∃ y, t[k]? = some y := ⟨t[k]'(by have := HT.out.1; omega), by simp⟩
        rcases HF.out.2 with hX | ⟨fb, foff, rfl, hfb, hfc⟩
        · omega
        rcases HT.out.2 with hX | ⟨tb, toff, rfl, htb, htc⟩
        · omega
        obtain ⟨d0, d1⟩ := clCells (w := wr) (fun j u hu => (HB.out.cell (by exact hfb)).trans (hfc j u hu)) k x hx
        obtain ⟨e0, e1⟩ := clCells (w := wr) (fun j u hu => (HB.out.cell (by exact htb)).trans (htc j u hu)) k y hy
        have HX := Lib.hid hx
        have HY := Lib.hid hy
        have hki : (k : Int) < (fn : Int) := by omega
        have hk0 : (0 : Int) ≤ (k : Int) := by omega
        clear hx hy hfc htc
        obtain ⟨x, s⟩ := x
        obtain ⟨y, z⟩ := y
        simp only at d0 d1 e0 e1
        by_cases hxy : x = y
        · subst hxy
          by_cases hsz : s = z
          · subst hsz
            go_wp2_with fail
            go_region_law (first | fail)
            all_goals
              go_wp2
              go_roundw
              case rel => exact ⟨k + 1, by omega, by go_num, take_eq_succ HE.out HX.out HY.out, HB.out.drew⟩
              case measure => simp [intOf]; omega
          · have hne : ¬ f = t := fun h => by
              have h1 := HX.out
              rw [h, HY.out] at h1
              simp at h1
              exact hsz h1.symm
            go_wp2_with fail
            go_region_law (first | fail)
            all_goals
              go_wp2
              go_ret
              exact ⟨ret_bool (by simp [hne]), HB.out.drew⟩
        · have hne : ¬ f = t := fun h => by
            have h1 := HX.out
            rw [h, HY.out] at h1
            simp at h1
            exact hxy h1.1.symm
          go_wp2_with fail
          go_region_law (first | fail)
          all_goals
            go_wp2
            go_ret
            exact ⟨ret_bool (by simp [hne]), HB.out.drew⟩
      · obtain rfl : k = fn := by omega
        have he : f = t := by
          have h := HE.out
          rw [List.take_of_length_le (by rw [HF.out.1]; exact Nat.le_refl _), List.take_of_length_le (by rw [HT.out.1]; exact Nat.le_refl _)] at h
          exact h
        go_wp2
        go_ret
        exact ⟨ret_bool (by simp [he]), HB.out⟩
  · have hli : ¬ (fn : Int) = (tn : Int) := by omega
    have hne : ¬ f = t := fun h => hl (by rw [← HF.out.1, ← HT.out.1, h])
    go_enter Tryd.func9, Tryd.ntmps9
    go_wp2
    go_ret
    exact ⟨ret_bool (by simp [hne]), Below.refl _ _⟩
end Go.Proofs.YtnbpkabnaipimaaDoor
