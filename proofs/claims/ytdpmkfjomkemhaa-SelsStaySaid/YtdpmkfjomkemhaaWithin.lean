/- The contract of the program's within: places brought into the text. Conditions: the selections lie in memory, not too many; the length is not below 0. -/
import Derived.Test.YtdpmkfjomkemhaaSpan
import Derived.Test.YtdpmkfjomkemhaaSteps
import Derived.Deep.CutBlock
import Derived.Deep.CutRange
namespace Go.Proofs.Ytdpmkfjomkemhaa
open Go Go.RowKit

theorem near (p m : Int) (hm : 0 ≤ m) (g : Nat) (w : World) (h : w.cell? ⟨g, 0, none⟩ = some (.int .i64 m)) : Calls Try.prog 26 #[.int .i64 p, .pointer (some ⟨g, 0, none⟩)] w fun e w' => e = .returned (.int .i64 (win p m)) ∧ w' = w := by
  have E := Lib.hid (show max 0 (min p m) = win p m by unfold win; repeat' split; all_goals omega)
  go_enter Try.func26, Try.ntmps26
  go_wp2
  all_goals (go_ret; exact ⟨ret_int E.out, rfl⟩)

set_option maxHeartbeats 40000000 in
set_option maxRecDepth 100000 in
theorem withinAt (a : Option Addr) (n c : Nat) (m : Int) (ls : List Sl) (w : World) (hm : 0 ≤ m) (hn : n ≤ 1000) (hl : RowAt Sl.cells 24 w a n ls) :
    Calls Try.prog 17 #[.slice a n c, .int .i64 m] w fun e w' => ∃ v, e = .returned v ∧ w'.ownsRow w.heap.size 24 2 v n (flat Sl.cells (ownOf m ls)) ∧ Below w.heap.size w w' := by
  have HL := Lib.hid hl
  clear hl
  obtain ⟨i2, hi2, hy0, hy1, hy2⟩ := info_cut Try.info24
  go_enter Try.func17, Try.ntmps17
  go_wp2
  go_loopw [6, 12] (fun v6 i wr => ∃ k : Nat, k ≤ n ∧ i = .int .i64 k ∧ wr.ownsRow (w.heap.size + 1) 24 2 v6 k (flat Sl.cells ((ownOf m ls).take k)) ∧ wr.cell? ⟨w.heap.size, 0, none⟩ = some (.int .i64 m) ∧ Below w.heap.size w wr) (fun _ i _ => n - (RowKit.intOf i).toNat)
  case atStart => exact ⟨0, Nat.zero_le _, rfl, World.ownsRow_nil _ _ _ _, by go_simp, (Below.refl _ _).alloc (Nat.le_refl _) _⟩
  case round =>
    obtain ⟨k, hk, rfl, ho6, hcm, hbel⟩ := hrel
    by_cases hltk : k < n
    · obtain ⟨s, hs⟩ : ∃ s, ls[k]? = some s := ⟨ls[k]'(by have := HL.out.1; omega), by simp⟩
      rcases HL.out.2 with h0 | ⟨g, off, rfl, hh, hc⟩
      · omega
      have hg := hh
      obtain ⟨c0, c1⟩ := slCells (fun j u hu => (hbel.cell (by exact hg)).trans (hc j u hu)) k s hs
      have hltz : (k : Int) < (n : Int) := by omega
      have hk0 : (0 : Int) ≤ (k : Int) := by omega
      have O6 := Lib.hid ho6
      have BB := Lib.hid hbel
      have HS := Lib.hid hs
      have hgr : g < wr.heap.size := by have := hbel.size; omega
      have hwr : w.heap.size < wr.heap.size := by
        obtain ⟨_, _, _, hb', _⟩ := Go.Sort.cells_of_cell? hcm
        exact (Array.getElem?_eq_some_iff.1 hb').1
      have CL := Lib.hid (show clamp m s = ⟨win s.a m, win s.h m⟩ from rfl)
      have W1 := Lib.hid (fun W h => near s.a m hm w.heap.size W h)
      have W2 := Lib.hid (fun W h => near s.h m hm w.heap.size W h)
      obtain ⟨A, hA⟩ : ∃ A, A = win s.a m := ⟨_, rfl⟩
      obtain ⟨H, hH⟩ : ∃ H, H = win s.h m := ⟨_, rfl⟩
      rw [← hA] at W1 CL
      rw [← hH] at W2 CL
      clear ho6 hbel hs hc hA hH
      go_upto_region 6 with fail
      have ES := Lib.hid (show (ownOf m ls).take (k + 1) = (ownOf m ls).take k ++ [⟨A, H⟩] by rw [List.take_add_one, ownOf_get HS.out, CL.out]; rfl)
      have NO := Lib.hid (show ∀ u ∈ Sl.cells ⟨A, H⟩, u.oneCell' = true from fun u hu => sl_one [⟨A, H⟩] u (by rw [flat_one]; exact hu))
      have BV := Lib.hid (show Below w.heap.size w (wr.alloc (Obj.cells #[.int .i64 s.a, .int .i64 s.h] 24)) from BB.out.alloc BB.out.size _)
      have OV := Lib.hid (O6.out.alloc (Obj.cells #[.int .i64 s.a, .int .i64 s.h] 24))
      have X0 : (wr.alloc (Obj.cells #[.int .i64 s.a, .int .i64 s.h] 24)).cell? ⟨w.heap.size, 0, none⟩ = some (.int .i64 m) := Lib.cell?_alloc_some _ hcm
      have X1 : (wr.alloc (Obj.cells #[.int .i64 s.a, .int .i64 s.h] 24)).cell? ⟨wr.heap.size, 0, none⟩ = some (.int .i64 s.a) := by go_simp
      have X2 : (wr.alloc (Obj.cells #[.int .i64 s.a, .int .i64 s.h] 24)).cell? ⟨wr.heap.size, 1, none⟩ = some (.int .i64 s.h) := by go_simp
      have hsV : (wr.alloc (Obj.cells #[.int .i64 s.a, .int .i64 s.h] 24)).heap.size = wr.heap.size + 1 := by simp
      have NE0 := Lib.hid (show ¬ some w.heap.size = u6.ownBlock from fun e => by have := O6.out.lt _ e.symm; omega)
      have NE1 := Lib.hid (show ¬ some wr.heap.size = u6.ownBlock from fun e => by have := O6.out.lt _ e.symm; omega)
      have HSV := Lib.hid hsV
      have hBV : w.heap.size + 1 ≤ wr.heap.size := hwr
      clear hcm O6 BB c0 c1 hsV
      generalize wr.alloc (Obj.cells #[.int .i64 s.a, .int .i64 s.h] 24) = V at *
      go_region_held3 (fun W => W.cell? ⟨w.heap.size, 0, none⟩ = some (.int .i64 m) ∧ W.cell? ⟨wr.heap.size, 0, none⟩ = some (.int .i64 s.a) ∧ W.cell? ⟨wr.heap.size, 1, none⟩ = some (.int .i64 s.h)) (first | assumption | exact ⟨X0, X1, X2⟩ | exact ⟨Lib.cell?_alloc_some _ X0, Lib.cell?_alloc_some _ X1, Lib.cell?_alloc_some _ X2⟩ | exact KX.out)
        (first
          | (go_at_call 26; (refine (W1.out _ (by exact X0)).mono ?_); rintro e w' ⟨rfl, rfl⟩)
          | (go_at_call 26; (refine (W2.out _ (by exact X0)).mono ?_); rintro e w' ⟨rfl, rfl⟩)
          | (refine step_append_own rfl (.tmp 16) (.tmp 26) 22 rfl (w.heap.size + 1) 24 i2 _ 2 16 Try.underlying22 hi2 hy0 hy1 hy2 rfl (by decide) u6 k (flat Sl.cells ((ownOf m ls).take k)) (by simp [Act.eval]) (by first | exact (OV.out.alloc _).drew | exact OV.out.drew.alloc _) ⟨V.heap.size, 0, none⟩ 1 1 (Sl.cells ⟨A, H⟩) (by simp [Act.eval]) rfl (new_cells V (Sl.cells ⟨A, H⟩) 24) NO.out (by unfold maxLen; omega) (by omega) (by have := HSV.out; simp; omega) ?_; intro v8 w8 own8 gr8; have KX := Lib.hid (show w8.cell? ⟨w.heap.size, 0, none⟩ = some (.int .i64 m) ∧ w8.cell? ⟨wr.heap.size, 0, none⟩ = some (.int .i64 s.a) ∧ w8.cell? ⟨wr.heap.size, 1, none⟩ = some (.int .i64 s.h) from ⟨gr8.cell (Lib.cell?_alloc_some _ X0) NE0.out, gr8.cell (Lib.cell?_alloc_some _ X1) NE1.out, gr8.cell (Lib.cell?_alloc_some _ X2) NE1.out⟩)))
      have R8 := Lib.hid own8
      have B8 := Lib.hid (show Below w.heap.size w w8 from ((BV.out.alloc BV.out.size _).drew).grown gr8 (by have := BV.out.size; simp; omega) (fun j hj => by have := (OV.out.lt j hj).1; omega))
      have C8 := Lib.hid KX.out.1
      clear own8 gr8
      go_wp2_with fail
      go_roundw
      case rel => exact ⟨k + 1, by omega, by go_num, by rw [ES.out, flat_append, flat_one]; exact R8.out, C8.out, B8.out⟩
      case measure => (simp [RowKit.intOf]; try omega)
    · obtain rfl : k = n := by omega
      have EO := Lib.hid (show (ownOf m ls).take k = ownOf m ls from List.take_of_length_le (by simp [ownOf, HL.out.1]))
      rw [EO.out] at ho6
      have O6 := Lib.hid (own_mono ho6 (Nat.le_succ _))
      have BB := Lib.hid hbel
      have hkn : ¬ (k : Int) < (k : Int) := by omega
      clear ho6 hbel hcm hltk hkn
      go_wp2
      go_ret
      exact ⟨_, rfl, O6.out, BB.out⟩
end Go.Proofs.Ytdpmkfjomkemhaa
