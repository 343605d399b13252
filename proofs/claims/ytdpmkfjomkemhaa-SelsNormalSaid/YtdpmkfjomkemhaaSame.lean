/- The contract of the reference's Same. Conditions: the selections lie in memory. -/
import Derived.Test.YtdpmkfjomkemhaaAhead
namespace Go.Proofs.Ytdpmkfjomkemhaa
open Go Go.RowKit

theorem same_differ (a b : Option Addr) (n m c d : Nat) (w : World) (h : n ≠ m) : Calls Try.prog 7 #[.slice a n c, .slice b m d] w fun e w' => e = .returned (.bool false) ∧ Below w.heap.size w w' := by
  have h1 : ((n : Int) != (m : Int)) = true := by simp; omega
  have h2 : ¬ (n : Int) = (m : Int) := by omega
  go_enter Try.func7, Try.ntmps7
  go_wp2
  go_ret
  exact ⟨rfl, Below.refl _ _⟩
theorem same_none (a b : Option Addr) (c d : Nat) (w : World) : Calls Try.prog 7 #[.slice a 0 c, .slice b 0 d] w fun e w' => e = .returned (.bool true) ∧ Below w.heap.size w w' := by
  go_enter Try.func7, Try.ntmps7
  go_wp2
  go_loop [5] (fun i => i = .int .i64 0) (fun _ => 0)
  case atStart => rfl
  case round =>
    subst hrel
    go_wp2
    go_ret
    exact ⟨rfl, Below.refl _ _⟩

open Classical in
theorem same_cells (g off n c h off' d : Nat) (l m : List Sl) (w : World) (hl : l.length = n) (hm : m.length = n) (hn : n ≤ 1000000) (hb : g < w.heap.size) (hb' : h < w.heap.size)
    (h1 : ∀ j z, (flat Sl.cells l)[j]? = some z → w.cell? ⟨g, off + j, none⟩ = some z) (h2 : ∀ j z, (flat Sl.cells m)[j]? = some z → w.cell? ⟨h, off' + j, none⟩ = some z) :
    Calls Try.prog 7 #[.slice (some ⟨g, off, none⟩) n c, .slice (some ⟨h, off', none⟩) n d] w fun e w' => e = .returned (.bool (decide (l = m))) ∧ Below w.heap.size w w' := by
  have H1 := Lib.hid h1
  have H2 := Lib.hid h2
  have HL := Lib.hid hl
  have HM := Lib.hid hm
  clear h1 h2 hl hm
  go_enter Try.func7, Try.ntmps7
  go_wp2
  go_loopw [5] (fun i wr => ∃ k : Nat, k ≤ n ∧ i = .int .i64 k ∧ (∀ j : Nat, j < k → l[j]? = m[j]?) ∧ Below w.heap.size w wr) (fun i _ => n - (RowKit.intOf i).toNat)
  case atStart => exact ⟨0, Nat.zero_le _, rfl, fun j hj => absurd hj (Nat.not_lt_zero _), Below.refl _ _⟩
  case round =>
    obtain ⟨k, hk, rfl, hall, hbel⟩ := hrel
    have HA := Lib.hid hall
    have HB := Lib.hid hbel
    by_cases hltk : k < n
    · obtain ⟨x, hx⟩ : ∃ x, l[k]? = some x := ⟨l[k]'(by have := HL.out; omega), by simp⟩
      obtain ⟨y, hy⟩ : ∃ y, m[k]? = some y := ⟨m[k]'(by have := HM.out; omega), by simp⟩
      obtain ⟨c0, c1⟩ := slCells (fun j u hu => (hbel.cell (by exact hb)).trans (H1.out j u hu)) k x hx
      obtain ⟨d0, d1⟩ := slCells (fun j u hu => (hbel.cell (by exact hb')).trans (H2.out j u hu)) k y hy
      have hltz : (k : Int) < (n : Int) := by omega
      have hk0 : (0 : Int) ≤ (k : Int) := by omega
      have X := Lib.hid hx
      have Y := Lib.hid hy
      clear hx hy hbel hall
      obtain ⟨xa, xh⟩ := x
      obtain ⟨ya, yh⟩ := y
      simp only at c0 c1 d0 d1
      by_cases he : xa = ya ∧ xh = yh
      · obtain ⟨rfl, rfl⟩ := he
        go_wp2_with fail
        go_quiet (fail)
        go_wp2
        go_roundw
        case rel =>
          refine ⟨k + 1, by omega, by go_num, fun j hj => ?_, HB.out.trans ⟨rfl, rfl, rfl, Nat.le_refl _, fun _ _ => rfl⟩⟩
          by_cases e : j = k
          · rw [e, X.out, Y.out]
          · exact HA.out j (by omega)
        case measure => (simp [RowKit.intOf]; try omega)
      · have E := Lib.hid (decide_eq_false (fun e : l = m => by
          have hx := X.out
          rw [e, Y.out] at hx
          cases hx
          exact he ⟨rfl, rfl⟩) : decide (l = m) = false)
        by_cases ha : xa = ya
        · subst ha
          have hh : xh ≠ yh := fun e => he ⟨rfl, e⟩
          have b1 : (xh == yh) = false := by simp [hh]
          clear he
          go_wp2_with fail
          go_quiet (fail)
          go_wp2
          go_ret
          exact ⟨ret_bool E.out.symm, HB.out.trans ⟨rfl, rfl, rfl, Nat.le_refl _, fun _ _ => rfl⟩⟩
        · have b1 : (xa == ya) = false := by simp [ha]
          clear he
          go_wp2_with fail
          go_quiet (fail)
          go_wp2
          go_ret
          exact ⟨ret_bool E.out.symm, HB.out.trans ⟨rfl, rfl, rfl, Nat.le_refl _, fun _ _ => rfl⟩⟩
    · have E := Lib.hid (decide_eq_true (show l = m from List.ext_getElem? fun i => by
        by_cases hi : i < k
        · exact HA.out i hi
        · rw [List.getElem?_eq_none (by have := HL.out; omega), List.getElem?_eq_none (by have := HM.out; omega)]))
      have hkn : ¬ (k : Int) < (n : Int) := by omega
      clear hbel hall
      go_wp2
      go_ret
      exact ⟨ret_bool E.out.symm, HB.out⟩

open Classical in
theorem same (a b : Option Addr) (n m c d : Nat) (l k : List Sl) (w : World) (hn : n ≤ 1000000) (h1 : RowAt Sl.cells 24 w a n l) (h2 : RowAt Sl.cells 24 w b m k) :
    Calls Try.prog 7 #[.slice a n c, .slice b m d] w fun e w' => e = .returned (.bool (decide (l = k))) ∧ Below w.heap.size w w' := by
  by_cases e : n = m
  · subst e
    rcases h1.2 with h0 | ⟨g, off, rfl, hh, hc⟩
    · subst h0
      rw [decide_eq_true (show l = k by rw [List.eq_nil_of_length_eq_zero h1.1, List.eq_nil_of_length_eq_zero h2.1])]
      exact same_none a b c d w
    · rcases h2.2 with h0 | ⟨g', off', rfl, hh', hc'⟩
      · subst h0
        rw [decide_eq_true (show l = k by rw [List.eq_nil_of_length_eq_zero h1.1, List.eq_nil_of_length_eq_zero h2.1])]
        exact same_none _ _ c d w
      · exact same_cells g off n c g' off' d l k w h1.1 h2.1 hn hh hh' hc hc'
  · rw [decide_eq_false (show ¬ l = k from fun h => e (by rw [← h1.1, ← h2.1, h]))]
    exact same_differ a b n m c d w e
end Go.Proofs.Ytdpmkfjomkemhaa
