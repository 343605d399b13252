/- The contract of the program's Is. Conditions: the selections lie in memory, not too many. -/
import Derived.Test.YtdpmkfjomkemhaaSpan
import Derived.Deep.CutBlock
import Derived.Deep.CutRange
namespace Go.Proofs.Ytdpmkfjomkemhaa
open Go Go.RowKit

theorem right_take (ls : List Sl) (m : Int) : Right ls m ↔ ls ≠ [] ∧ ∀ (k : Nat) (s : Sl), ls[k]? = some s → 0 ≤ s.lo ∧ s.hi ≤ m ∧ ∀ t : Sl, 0 < k → ls[k - 1]? = some t → t.hi < s.lo := by
  constructor
  · rintro ⟨h0, hb, hg⟩
    refine ⟨h0, fun k s hs => ⟨(hb s (List.mem_of_getElem? hs)).1, (hb s (List.mem_of_getElem? hs)).2, fun t hk ht => ?_⟩⟩
    exact next_of_gaps hg ht (by rwa [show k - 1 + 1 = k by omega])
  · rintro ⟨h0, h⟩
    refine ⟨h0, fun s hs => ?_, gaps_of_next fun i s t hs ht => (h (i + 1) t ht).2.2 s (by omega) (by simpa using hs)⟩
    obtain ⟨k, hk⟩ := List.mem_iff_getElem?.1 hs
    exact ⟨(h k s hk).1, (h k s hk).2.1⟩

/-- The end of the last one so far. -/
def endOf (ls : List Sl) (k : Nat) : Int := if k = 0 then -1 else ((ls[k - 1]?).map Sl.hi).getD 0
theorem endOf_succ {ls : List Sl} {k : Nat} {s : Sl} (h : ls[k]? = some s) : endOf ls (k + 1) = s.hi := by
  unfold endOf
  rw [if_neg (by omega), Nat.add_sub_cancel, h]
  rfl

open Classical in
set_option maxHeartbeats 4000000 in
set_option maxRecDepth 100000 in
theorem isAt (a : Option Addr) (n c : Nat) (m : Int) (ls : List Sl) (w : World) (hn : n ≤ 100) (hl : RowAt Sl.cells 24 w a n ls) :
    Calls Try.prog 9 #[.slice a n c, .int .i64 m] w fun e w' => e = .returned (.bool (decide (Right ls m))) ∧ Below w.heap.size w w' := by
  obtain ⟨r, hr⟩ : ∃ r, r = decide (Right ls m) := ⟨_, rfl⟩
  have RR := Lib.hid hr
  rw [← hr]
  clear hr
  have HL := Lib.hid hl
  clear hl
  go_enter Try.func9, Try.ntmps9
  go_wp2
  go_loopw [5, 11] (fun v5 i wr => ∃ k : Nat, k ≤ n ∧ i = .int .i64 k ∧ v5 = .int .i64 (endOf ls k) ∧ (∀ (j : Nat) (s : Sl), j < k → ls[j]? = some s → 0 ≤ s.lo ∧ s.hi ≤ m ∧ ∀ t : Sl, 0 < j → ls[j - 1]? = some t → t.hi < s.lo) ∧ Below w.heap.size w wr) (fun _ i _ => n - (RowKit.intOf i).toNat)
  case atStart => exact ⟨0, Nat.zero_le _, rfl, rfl, fun j s hj => absurd hj (Nat.not_lt_zero _), Below.refl _ _⟩
  case round =>
    obtain ⟨k, hk, rfl, rfl, hall, hbel⟩ := hrel
    have HA := Lib.hid hall
    have HB := Lib.hid hbel
    by_cases hltk : k < n
    · obtain ⟨s, hs⟩ : ∃ s, ls[k]? = some s := ⟨ls[k]'(by have := HL.out.1; omega), by simp⟩
      rcases HL.out.2 with h0 | ⟨g, off, rfl, hh, hc⟩
      · omega
      obtain ⟨c0, c1⟩ := slCells (fun j u hu => (hbel.cell (by exact hh)).trans (hc j u hu)) k s hs
      have hltz : (k : Int) < (n : Int) := by omega
      have hk0 : (0 : Int) ≤ (k : Int) := by omega
      have X := Lib.hid hs
      have SP := Lib.hid (fun W => spanAt s W)
      have hgr : g < wr.heap.size := by have := hbel.size; omega
      have hlo : s.lo ≤ s.hi := s.lo_hi
      clear hs hbel hall hc
      have EE := Lib.hid (endOf_succ X.out)
      obtain ⟨en, hen⟩ : ∃ en, en = endOf ls k := ⟨_, rfl⟩
      have EN := Lib.hid hen
      rw [← hen]
      clear hen
      have BN := Lib.hid (show Below w.heap.size w ((((wr.alloc (Obj.cells #[.int .i64 s.a, .int .i64 s.h] 24)).alloc (Obj.cells #[.int .i64 s.a, .int .i64 s.h] 24)).alloc (Obj.cells #[.int .i64 s.lo, .int .i64 s.hi] 30)).alloc (Obj.cells #[.int .i64 s.lo, .int .i64 s.hi] 30)) from by
        have hsz := HB.out.size
        refine Below.alloc (Below.alloc (Below.alloc (Below.alloc HB.out hsz _) ?_ _) ?_ _) ?_ _
        all_goals (simp; try omega))
      have NOT := Lib.hid (fun (h : ¬ (0 ≤ s.lo ∧ s.hi ≤ m ∧ ∀ t : Sl, 0 < k → ls[k - 1]? = some t → t.hi < s.lo)) => (show r = false from RR.out.trans (decide_eq_false fun hR => h (((right_take ls m).1 hR).2 k s X.out))))
      have OLD := Lib.hid (show ¬ en < s.lo → ¬ (0 ≤ s.lo ∧ s.hi ≤ m ∧ ∀ t : Sl, 0 < k → ls[k - 1]? = some t → t.hi < s.lo) from fun h hh => by
        have hE := EN.out
        by_cases h0 : k = 0
        · rw [h0] at hE
          have : en = -1 := hE
          omega
        · obtain ⟨t, ht⟩ : ∃ t, ls[k - 1]? = some t := ⟨ls[k - 1]'(by have := HL.out.1; omega), by simp⟩
          have h1 := hh.2.2 t (by omega) ht
          have h2 := endOf_succ ht
          rw [show k - 1 + 1 = k by omega] at h2
          omega)
      have NEW := Lib.hid (show en < s.lo → 0 ≤ s.lo ∧ ∀ t : Sl, 0 < k → ls[k - 1]? = some t → t.hi < s.lo from fun h => by
        have hE := EN.out
        refine ⟨?_, fun t h0 ht => ?_⟩
        · by_cases h0 : k = 0
          · rw [h0] at hE
            have : en = -1 := hE
            omega
          · obtain ⟨t, ht⟩ : ∃ t, ls[k - 1]? = some t := ⟨ls[k - 1]'(by have := HL.out.1; omega), by simp⟩
            have h2 := endOf_succ ht
            rw [show k - 1 + 1 = k by omega] at h2
            have h3 := (HA.out (k - 1) t (by omega) ht).1
            have h4 := t.lo_hi
            omega
        · have h2 := endOf_succ ht
          rw [show k - 1 + 1 = k by omega] at h2
          omega)
      by_cases z1 : en < s.lo
      · have N1 := Lib.hid (NEW.out z1)
        by_cases z2 : s.hi ≤ m
        · have N2 := Lib.hid (show 0 ≤ s.lo ∧ s.hi ≤ m ∧ ∀ t : Sl, 0 < k → ls[k - 1]? = some t → t.hi < s.lo from ⟨N1.out.1, z2, N1.out.2⟩)
          have z1' : ¬ s.lo ≤ en := by omega
          have z2' : ¬ m < s.hi := by omega
          have HI := Lib.hid (show endOf ls (k + 1) = s.hi from EE.out)
          clear hlo
          go_wp2_with fail
          (with_reducible refine (SP.out _).mono ?_)
          rintro e w1 ⟨rfl, rfl⟩
          go_wp2
          go_roundw
          case rel =>
            refine ⟨k + 1, by omega, by go_num, by rw [HI.out], fun j t hj ht => ?_, BN.out⟩
            by_cases e : j = k
            · subst e
              have h1 := X.out
              rw [ht] at h1
              cases h1
              exact N2.out
            · exact HA.out j t (by omega) ht
          case measure => (simp [RowKit.intOf]; try omega)
        · have R0 := Lib.hid (NOT.out fun h => z2 h.2.1)
          have z1' : ¬ s.lo ≤ en := by omega
          have z2' : m < s.hi := by omega
          clear hlo
          go_wp2_with fail
          (with_reducible refine (SP.out _).mono ?_)
          rintro e w1 ⟨rfl, rfl⟩
          go_wp2
          go_ret
          exact ⟨ret_bool R0.out.symm, BN.out⟩
      · have R0 := Lib.hid (NOT.out (OLD.out z1))
        have z1' : s.lo ≤ en := by omega
        clear hlo
        go_wp2_with fail
        (with_reducible refine (SP.out _).mono ?_)
        rintro e w1 ⟨rfl, rfl⟩
        go_wp2
        go_ret
        exact ⟨ret_bool R0.out.symm, BN.out⟩
    · have hkn : ¬ (k : Int) < (n : Int) := by omega
      have R1 := Lib.hid (show r = decide (0 < n) from RR.out.trans (decide_eq_decide.2 ⟨fun h => by
        have := List.length_pos_iff.2 ((right_take ls m).1 h).1
        have := HL.out.1
        omega, fun h => (right_take ls m).2 ⟨fun e => by
          have := HL.out.1
          rw [e] at this
          simp at this
          omega, fun j s hs => HA.out j s (by have := (List.getElem?_eq_some_iff.1 hs).1; have := HL.out.1; omega) hs⟩⟩))
      clear hbel hall
      by_cases h0 : 0 < n
      · have h0i : (0 : Int) < (n : Int) := by omega
        have R2 := Lib.hid (R1.out.trans (decide_eq_true h0))
        go_wp2
        go_ret
        exact ⟨ret_bool R2.out.symm, HB.out⟩
      · have h0i : ¬ (0 : Int) < (n : Int) := by omega
        have R2 := Lib.hid (R1.out.trans (decide_eq_false h0))
        go_wp2
        go_ret
        exact ⟨ret_bool R2.out.symm, HB.out⟩
end Go.Proofs.Ytdpmkfjomkemhaa
