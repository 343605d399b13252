/- The contract of the program's join. Conditions: none. -/
import Derived.Test.YtdpmkfjomkemhaaSpan
import Derived.Test.YtdpmkfjomkemhaaAcc
import Derived.Deep.CutBlock
import Derived.Deep.CutRange
namespace Go.Proofs.Ytdpmkfjomkemhaa
open Go Go.RowKit

theorem field0 (x y : Int) (w : World) : (Instr.field 30 (.agg #[.int .i64 x, .int .i64 y]) 0).run Try.prog w = .ok (.int .i64 x) w := by kernel_rfl
theorem field1 (x y : Int) (w : World) : (Instr.field 30 (.agg #[.int .i64 x, .int .i64 y]) 1).run Try.prog w = .ok (.int .i64 y) w := by kernel_rfl

set_option maxHeartbeats 4000000 in
theorem joinAt (s t : Sl) (w : World) : Calls Try.prog 21 #[.agg #[.int .i64 s.a, .int .i64 s.h], .agg #[.int .i64 t.a, .int .i64 t.h]] w fun e w' => e = .returned (.agg #[.int .i64 (joinF s t).a, .int .i64 (joinF s t).h]) ∧ Below w.heap.size w w' := by
  obtain ⟨ra, hra⟩ : ∃ v, v = (joinF s t).a := ⟨_, rfl⟩
  obtain ⟨rh, hrh⟩ : ∃ v, v = (joinF s t).h := ⟨_, rfl⟩
  have RA := Lib.hid hra
  have RH := Lib.hid hrh
  rw [← hra, ← hrh]
  clear hra hrh
  have SS := Lib.hid (fun W => spanAt s W)
  have ST := Lib.hid (fun W => spanAt t W)
  have f1 : ∀ w : World, (Instr.field 30 (.agg #[.int .i64 s.lo, .int .i64 s.hi]) 0).run Try.prog w = .ok (.int .i64 s.lo) w := field0 _ _
  have f2 : ∀ w : World, (Instr.field 30 (.agg #[.int .i64 s.lo, .int .i64 s.hi]) 1).run Try.prog w = .ok (.int .i64 s.hi) w := field1 _ _
  have f3 : ∀ w : World, (Instr.field 30 (.agg #[.int .i64 t.lo, .int .i64 t.hi]) 1).run Try.prog w = .ok (.int .i64 t.hi) w := field1 _ _
  go_enter Try.func21, Try.ntmps21
  go_wp2_with fail
  go_cut [5, 6] from 8 to 17 (fun s5 s6 wx => s5 = .int .i64 s.lo ∧ s6 = .int .i64 (max s.hi t.hi) ∧ Below (w.heap.size + 3) (((w.alloc (Obj.cells #[.int .i64 s.a, .int .i64 s.h] 24)).alloc (Obj.cells #[.int .i64 t.a, .int .i64 t.h] 24)).alloc (Obj.cells #[.int .i64 0, .int .i64 0] 24)) wx)
  case first =>
    go_region_law (first
      | (go_simp; go_at_call 11; (with_reducible refine (SS.out _).mono ?_); rintro e w' ⟨rfl, rfl⟩)
      | (go_simp; go_at_call 11; (with_reducible refine (ST.out _).mono ?_); rintro e w' ⟨rfl, rfl⟩))
    all_goals (go_wp2_with fail; go_meet)
    all_goals (refine ⟨by first | rfl | trivial, by first | rfl | trivial, ?_⟩)
    all_goals (
      refine Below.drew ?_
      repeat (first | exact Below.refl _ _ | refine Below.alloc ?_ (by simp; try omega) _))
  case rest =>
    obtain ⟨rfl, rfl, hb⟩ := hcut
    have a0 : wc.cell? ⟨w.heap.size, 0, none⟩ = some (.int .i64 s.a) := (hb.cell (by simp)).trans (by go_simp)
    have a1 : wc.cell? ⟨w.heap.size, 1, none⟩ = some (.int .i64 s.h) := (hb.cell (by simp)).trans (by go_simp)
    have b0 : wc.cell? ⟨w.heap.size + 1, 0, none⟩ = some (.int .i64 t.a) := (hb.cell (by simp)).trans (by go_simp)
    have b1 : wc.cell? ⟨w.heap.size + 1, 1, none⟩ = some (.int .i64 t.h) := (hb.cell (by simp)).trans (by go_simp)
    have c0 : wc.cell? ⟨w.heap.size + 1 + 1, 0, none⟩ = some (.int .i64 0) := (hb.cell (by simp)).trans (by go_simp)
    have c1 : wc.cell? ⟨w.heap.size + 1 + 1, 1, none⟩ = some (.int .i64 0) := (hb.cell (by simp)).trans (by go_simp)
    have c2 : wc.frozen? ⟨w.heap.size + 1 + 1, 0, none⟩ = false := (hb.frozen (by simp)).trans (by go_simp)
    have c3 : wc.frozen? ⟨w.heap.size + 1 + 1, 1, none⟩ = false := (hb.frozen (by simp)).trans (by go_simp)
    have hsz : w.heap.size + 1 + 1 < wc.heap.size := by have := hb.size; simp at this; omega
    have hne1 : w.heap.size ≠ wc.heap.size := by omega
    have hne2 : w.heap.size + 1 ≠ wc.heap.size := by omega
    have hne3 : w.heap.size + 1 + 1 ≠ wc.heap.size := by omega
    have BW := Lib.hid (show Below w.heap.size w wc from ((((Below.refl _ w).alloc (Nat.le_refl _) _).alloc (by simp) _).alloc (by simp; omega) _).trans (hb.mono (by omega)))
    have E := Lib.hid (show (if s.hi < t.hi then t.hi else s.hi) = max s.hi t.hi from by split <;> omega)
    obtain ⟨T, hT⟩ : ∃ T, T = max s.hi t.hi := ⟨_, rfl⟩
    rw [← hT] at E
    rw [← hT]
    clear hb hT SS ST f1 f2 f3
    go_upto_region 3 with fail
    have al : ∀ (b o : Nat) (u : Value), wc.cell? ⟨b, o, none⟩ = some u → (wc.alloc (Obj.cells #[.int .i64 s.a, .int .i64 s.h] 24)).cell? ⟨b, o, none⟩ = some u := fun b o u h => Lib.cell?_alloc_some _ h
    have al2 : ∀ (o : Nat), wc.frozen? ⟨w.heap.size + 1 + 1, o, none⟩ = false → (wc.alloc (Obj.cells #[.int .i64 s.a, .int .i64 s.h] 24)).frozen? ⟨w.heap.size + 1 + 1, o, none⟩ = false := fun o h => (((Below.refl wc.heap.size wc).alloc (Nat.le_refl _) _).frozen (by exact hsz)).trans h
    replace a0 := al _ _ _ a0
    replace a1 := al _ _ _ a1
    replace b0 := al _ _ _ b0
    replace b1 := al _ _ _ b1
    replace c0 := al _ _ _ c0
    replace c1 := al _ _ _ c1
    replace c2 := al2 _ c2
    replace c3 := al2 _ c3
    have g0 : (wc.alloc (Obj.cells #[.int .i64 s.a, .int .i64 s.h] 24)).cell? ⟨wc.heap.size, 0, none⟩ = some (.int .i64 s.a) := by go_simp
    have g1 : (wc.alloc (Obj.cells #[.int .i64 s.a, .int .i64 s.h] 24)).cell? ⟨wc.heap.size, 1, none⟩ = some (.int .i64 s.h) := by go_simp
    have g2 : (wc.alloc (Obj.cells #[.int .i64 s.a, .int .i64 s.h] 24)).frozen? ⟨wc.heap.size, 0, none⟩ = false := by go_simp
    have g3 : (wc.alloc (Obj.cells #[.int .i64 s.a, .int .i64 s.h] 24)).frozen? ⟨wc.heap.size, 1, none⟩ = false := by go_simp
    have BV := Lib.hid (show Below w.heap.size w (wc.alloc (Obj.cells #[.int .i64 s.a, .int .i64 s.h] 24)) from BW.out.alloc BW.out.size _)
    clear al al2
    generalize (wc.alloc (Obj.cells #[.int .i64 s.a, .int .i64 s.h] 24)) = V at *
    obtain ⟨F, hF⟩ : ∃ F, F = wc.heap.size := ⟨_, rfl⟩
    rw [← hF] at g0 g1 g2 g3 hne1 hne2 hne3
    rw [← hF]
    have hFw := Lib.hid (show w.heap.size ≤ F by omega)
    clear hF BW hsz
    by_cases e1 : s.a = s.h
    · have d1 : (s.a == s.h) = true := by simp [e1]
      by_cases e2 : t.h < t.a
      · have J := Lib.hid (show joinF s t = ⟨T, s.lo⟩ by rw [joinF_empty e1, if_pos e2, E.out])
        have J1 := Lib.hid (RA.out.trans (by rw [J.out]))
        have J2 := Lib.hid (RH.out.trans (by rw [J.out]))
        clear e1
        go_wp2
        (try simp only [Exit.inBlock, Exit.then])
        refine bodyPost_ret (v := .agg #[.int .i64 ra, .int .i64 rh]) ?_ rfl ⟨rfl, ?_⟩
        · rw [results_cell1 rfl, J1.out, J2.out]
          go_simp
        · repeat (first | exact BV.out | refine Below.setCell ?_ (by first | exact hFw.out | (show w.heap.size ≤ w.heap.size + 1 + 1; omega)) _)
      · have J := Lib.hid (show joinF s t = ⟨s.lo, T⟩ by rw [joinF_empty e1, if_neg e2, E.out])
        have J1 := Lib.hid (RA.out.trans (by rw [J.out]))
        have J2 := Lib.hid (RH.out.trans (by rw [J.out]))
        clear e1
        go_wp2
        (try simp only [Exit.inBlock, Exit.then])
        refine bodyPost_ret (v := .agg #[.int .i64 ra, .int .i64 rh]) ?_ rfl ⟨rfl, ?_⟩
        · rw [results_cell1 rfl, J1.out, J2.out]
          go_simp
        · repeat (first | exact BV.out | refine Below.setCell ?_ (by first | exact hFw.out | (show w.heap.size ≤ w.heap.size + 1 + 1; omega)) _)
    · have d1 : (s.a == s.h) = false := by simp [e1]
      by_cases e2 : s.h < s.a
      · have J := Lib.hid (show joinF s t = ⟨T, s.lo⟩ by rw [joinF_full e1, if_pos e2, E.out])
        have J1 := Lib.hid (RA.out.trans (by rw [J.out]))
        have J2 := Lib.hid (RH.out.trans (by rw [J.out]))
        clear e1
        go_wp2
        (try simp only [Exit.inBlock, Exit.then])
        refine bodyPost_ret (v := .agg #[.int .i64 ra, .int .i64 rh]) ?_ rfl ⟨rfl, ?_⟩
        · rw [results_cell1 rfl, J1.out, J2.out]
          go_simp
        · repeat (first | exact BV.out | refine Below.setCell ?_ (by first | exact hFw.out | (show w.heap.size ≤ w.heap.size + 1 + 1; omega)) _)
      · have J := Lib.hid (show joinF s t = ⟨s.lo, T⟩ by rw [joinF_full e1, if_neg e2, E.out])
        have J1 := Lib.hid (RA.out.trans (by rw [J.out]))
        have J2 := Lib.hid (RH.out.trans (by rw [J.out]))
        clear e1
        go_wp2
        (try simp only [Exit.inBlock, Exit.then])
        refine bodyPost_ret (v := .agg #[.int .i64 ra, .int .i64 rh]) ?_ rfl ⟨rfl, ?_⟩
        · rw [results_cell1 rfl, J1.out, J2.out]
          go_simp
        · repeat (first | exact BV.out | refine Below.setCell ?_ (by first | exact hFw.out | (show w.heap.size ≤ w.heap.size + 1 + 1; omega)) _)
end Go.Proofs.Ytdpmkfjomkemhaa
