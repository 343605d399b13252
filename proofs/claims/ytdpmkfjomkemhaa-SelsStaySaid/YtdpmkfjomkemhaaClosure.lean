/- The closure by which the program sorts: its contract. Conditions: none. -/
import Derived.Test.YtdpmkfjomkemhaaSpan
import Derived.Deep.CutBlock
import Derived.Deep.CutRange
namespace Go.Proofs.Ytdpmkfjomkemhaa
open Go Go.RowKit

theorem lt_of_cell {w : World} {b o : Nat} {u : Value} (h : w.cell? ⟨b, o, none⟩ = some u) : b < w.heap.size := by
  obtain ⟨c, e, fr, hb, _⟩ := Go.Sort.cells_of_cell? h
  exact (Array.getElem?_eq_some_iff.1 hb).1
theorem grown_in {B : Nat} {a b : World} (h : Below B a b) : Below B a b := h

set_option maxHeartbeats 4000000 in
/-- The closure by which the program sorts. -/
theorem closure (s t : Sl) (w : World) : Calls Try.prog 23 #[.agg #[.int .i64 s.a, .int .i64 s.h], .agg #[.int .i64 t.a, .int .i64 t.h]] w fun e w' => e = .returned (.int .i64 (cfS s t)) ∧ Below w.heap.size w w' ∧ w.drawn ≤ w'.drawn := by
  have SS := Lib.hid (fun W => spanAt s W)
  have ST := Lib.hid (fun W => spanAt t W)
  have E := Lib.hid (show (if cmpI s.lo t.lo = 0 then cmpI s.hi t.hi else cmpI s.lo t.lo) = cfS s t from rfl)
  generalize s.lo = sl at *
  generalize s.hi = sh at *
  generalize t.lo = tl at *
  generalize t.hi = th at *
  generalize s.a = a at *
  generalize s.h = h at *
  generalize t.a = a' at *
  generalize t.h = h' at *
  go_enter Try.func23, Try.ntmps23
  go_wp2_with fail
  go_cut [5, 6] from 7 to 22 (fun s5 s6 wx => ∃ b c, s5 = .pointer (some ⟨b, 0, none⟩) ∧ s6 = .pointer (some ⟨c, 0, none⟩) ∧ wx.cell? ⟨b, 0, none⟩ = some (.int .i64 sl) ∧ wx.cell? ⟨b, 1, none⟩ = some (.int .i64 sh) ∧ wx.cell? ⟨c, 0, none⟩ = some (.int .i64 tl) ∧ wx.cell? ⟨c, 1, none⟩ = some (.int .i64 th) ∧ Below w.heap.size w wx ∧ w.drawn ≤ wx.drawn)
  case first =>
    go_region_law (first
      | (go_simp; go_at_call 11; (with_reducible refine (SS.out _).mono ?_); rintro e w' ⟨rfl, rfl⟩)
      | (go_simp; go_at_call 11; (with_reducible refine (ST.out _).mono ?_); rintro e w' ⟨rfl, rfl⟩))
    all_goals (go_wp2_with fail; go_meet)
    all_goals refine ⟨_, _, rfl, rfl, by go_simp, by go_simp, by go_simp, by go_simp, ?_, Nat.le_succ _⟩
    all_goals exact grown_in (by
      refine Below.drew ?_
      repeat refine Below.alloc ?_ (by simp; try omega) _
      exact Below.refl _ _)
  case rest =>
    obtain ⟨b, c, rfl, rfl, p1, p2, q1, q2, hbw, hdr⟩ := hcut
    have hb : b < wc.heap.size := lt_of_cell p1
    have hc : c < wc.heap.size := lt_of_cell q1
    have BW := Lib.hid hbw
    have DR := Lib.hid hdr
    have KS := Lib.hid (fun (W : World) (h : Below wc.heap.size wc W) (hd : wc.drawn ≤ W.drawn) => (show Below wc.heap.size wc W ∧ wc.drawn ≤ W.drawn ∧ W.cell? ⟨b, 0, none⟩ = some (.int .i64 sl) ∧ W.cell? ⟨b, 1, none⟩ = some (.int .i64 sh) ∧ W.cell? ⟨c, 0, none⟩ = some (.int .i64 tl) ∧ W.cell? ⟨c, 1, none⟩ = some (.int .i64 th) from
      ⟨h, hd, (h.cell (by exact hb)).trans p1, (h.cell (by exact hb)).trans p2, (h.cell (by exact hc)).trans q1, (h.cell (by exact hc)).trans q2⟩))
    have C1 := Lib.hid (fun W => compare sl tl W)
    have C2 := Lib.hid (fun W => compare sh th W)
    have OR := Lib.hid (fun g W h0 h1 => or2 g (cmpI sl tl) (cmpI sh th) (cfS s t) W E.out.symm h0 h1)
    generalize cmpI sl tl = x at *
    generalize cmpI sh th = y at *
    clear hbw hdr p1 p2 q1 q2
    go_wp2_with fail
    go_region_held3 (fun W => Below wc.heap.size wc W ∧ wc.drawn ≤ W.drawn ∧ W.cell? ⟨b, 0, none⟩ = some (.int .i64 sl) ∧ W.cell? ⟨b, 1, none⟩ = some (.int .i64 sh) ∧ W.cell? ⟨c, 0, none⟩ = some (.int .i64 tl) ∧ W.cell? ⟨c, 1, none⟩ = some (.int .i64 th))
      (first | assumption | exact KS.out _ (Below.refl _ _).drew (Nat.le_succ _) | exact KS.out _ (Below.refl _ _) (Nat.le_refl _) | exact KS.out _ (Below.alloc (And.left (by assumption)) (And.left (a := Below wc.heap.size wc _) (by assumption)).size _) (And.left (And.right (a := Below wc.heap.size wc _) (by assumption))))
      (first
        | (go_at_call 25; (with_reducible refine (C1.out _).mono ?_); rintro e w' ⟨rfl, rfl⟩)
        | (go_at_call 25; (with_reducible refine (C2.out _).mono ?_); rintro e w' ⟨rfl, rfl⟩)
        | (go_at_call 24; (refine (OR.out _ _ (by go_simp) (by go_simp)).mono ?_); rintro e w' ⟨rfl, rfl⟩))
    go_wp2
    go_ret
    exact ⟨rfl, (BW.out.alloc BW.out.size _).drew, Nat.le_trans DR.out (Nat.le_succ _)⟩
end Go.Proofs.Ytdpmkfjomkemhaa
