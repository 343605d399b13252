/- From what the rows list of the tables of width and of unicode/utf8 to what the contracts ask of the world. No conditions. -/
import Derived.Test.YtnbpkabnaipimaaDoorIn
import Derived.Test.YtnbpkabnaipimaaDoorCards
import Derived.Test.YtnbpkabnaipimaaDoorTie
import Derived.ShutString
import Derived.ChangeOld
import Derived.Deep.DeepHandedRow
namespace Go.Proofs.YtnbpkabnaipimaaDoor
open Go Go.RowKit Go.Lib Go.ChangeShapes Go.WideShapes Go.ChangeAt
set_option maxRecDepth 100000

theorem gSpans : Tryd.prog.globalNamed "stylus/width.spans" = some 0 := by kernel_rfl
theorem gSpansType : (Tryd.prog.globals[0]?).map (·.type) = some 74 := by kernel_rfl
theorem gFirst : Tryd.prog.globalNamed "unicode/utf8.first" = some 2 := by kernel_rfl
theorem gAccept : Tryd.prog.globalNamed "unicode/utf8.acceptRanges" = some 3 := by kernel_rfl
theorem gFirstType : (Tryd.prog.globals[2]?).map (·.type) = some 85 := by kernel_rfl
theorem gAcceptType : (Tryd.prog.globals[3]?).map (·.type) = some 88 := by kernel_rfl
theorem cells5 : Tryd.prog.cellsOf 5 = 1 := by kernel_rfl
theorem cellsSpan : Tryd.prog.cellsOf 73 = 3 := by kernel_rfl
theorem cellsFirst : Tryd.prog.cellsOf 85 = 256 := by kernel_rfl
theorem cellsAcc : Tryd.prog.cellsOf 87 = 2 := by kernel_rfl
def spansData : DataW Unit := .agg (tabL.map fun x => .agg [.lit (.int .i32 x.1), .lit (.int .i32 x.2.1), .lit (.int .i64 x.2.2)])
theorem spansIs : (Rows.laid_stylus_width_spans : DataW Unit) = spansData := by kernel_rfl
theorem firstIs : Rows.laid_unicode_utf8_first = firstData := by kernel_rfl
theorem acceptIs : (Rows.laid_unicode_utf8_acceptRanges : DataW Unit) = acceptData := by kernel_rfl

theorem chunk (i : Nat) (hi' : i < 15) : (spansA.toList.drop (i * 3)).take 3 = [Value.int .i32 (lo i), Value.int .i32 (hi i), Value.int .i64 (wk i)] := by
  rcases cases15 hi' with rfl | rfl | rfl | rfl | rfl | rfl | rfl | rfl | rfl | rfl | rfl | rfl | rfl | rfl | rfl <;> kernel_rfl
theorem datum (i : Nat) (hi' : i < 15) : (tabL.map fun x => (DataW.agg [.lit (.int .i32 x.1), .lit (.int .i32 x.2.1), .lit (.int .i64 x.2.2)] : DataW Unit))[i]? = some (.agg [.lit (.int .i32 (lo i)), .lit (.int .i32 (hi i)), .lit (.int .i64 (wk i))]) := by
  rcases cases15 hi' with rfl | rfl | rfl | rfl | rfl | rfl | rfl | rfl | rfl | rfl | rfl | rfl | rfl | rfl | rfl <;> rfl
theorem spansSize : spansA.toList.length = 45 := by kernel_rfl

theorem struct3 {w : World} {fuel : Nat} {cs : List Value} {a b c : Int} {q : List MemPlace} (h : DataW.trod (fun _ => ()) Tryd.prog w 0 (fun _ => true) false fuel 73 cs = some (.agg [.lit (.int .i32 a), .lit (.int .i32 b), .lit (.int .i64 c)], q)) :
    cs = [Value.int .i32 a, Value.int .i32 b, Value.int .i64 c] := by
  obtain ⟨xs, n, rfl, hx, hlen, hxl, hall⟩ := DataW.trod_struct Tryd.underlying73 h
  have h0 := hall 0 _ rfl
  have h1 := hall 1 _ rfl
  have h2 := hall 2 _ rfl
  match xs, hxl with
  | [y0, y1, y2], _ =>
    simp only [List.getElem?_cons_zero, List.getElem?_cons_succ] at h0 h1 h2
    obtain ⟨z0, hc0, rfl, _⟩ := DataW.trod_int Tryd.underlying21 h0
    obtain ⟨z1, hc1, rfl, _⟩ := DataW.trod_int Tryd.underlying21 h1
    obtain ⟨z2, hc2, rfl, _⟩ := DataW.trod_int Tryd.underlying3 h2
    simp at hx
    obtain ⟨⟨rfl, rfl, rfl⟩, rfl⟩ := hx
    rw [cellsSpan] at hlen
    match cs, hlen with
    | [v0, v1, v2], _ =>
      simp [cells21, cells3] at hc0 hc1 hc2
      rw [hc0, hc1, hc2]

theorem tab_of {w : World} (h3 : VarReads Tryd.prog w "stylus/width.spans" spansData) : Tab w := by
  obtain ⟨g, t, cs, fuel, p, hg, hty, hvar, hd⟩ := h3
  obtain rfl := Option.some.inj (gSpans.symm.trans hg)
  obtain rfl := Option.some.inj (gSpansType.symm.trans hty)
  have key : ∀ i, i < 15 → (cs.toList.drop (i * 3)).take 3 = (spansA.toList.drop (i * 3)).take 3 := by
    intro i hi
    obtain ⟨fuel', d, q, hdi, he⟩ := array_elem Tryd.underlying74 hd i hi
    rw [datum i hi] at hdi
    obtain rfl := Option.some.inj hdi
    rw [cellsSpan] at he
    rw [chunk i hi]
    exact struct3 he
  intro j v hv
  have hj : j < 45 := by
    rcases Nat.lt_or_ge j 45 with h | h
    · exact h
    · rw [List.getElem?_eq_none (by rw [spansSize]; exact h)] at hv; cases hv
  have e := congrArg (·[j % 3]?) (key (j / 3) (by omega))
  simp only [List.getElem?_take, List.getElem?_drop, if_pos (show j % 3 < 3 by omega), show j / 3 * 3 + j % 3 = j by omega] at e
  rw [Nat.zero_add, World.var?_cell hg hvar j, ← Array.getElem?_toList, e]
  exact hv

theorem utf_of {w : World} (h3 : VarReads Tryd.prog w "unicode/utf8.first" firstData) (h4 : VarReads Tryd.prog w "unicode/utf8.acceptRanges" acceptData) : Lib.Utf8Tabs 2 3 w := by
  refine ⟨fun c hc => ?_, fun i hi => ?_⟩
  · obtain ⟨g, t, cs, fuel, p, hg, hty, hvar, hd⟩ := h3
    obtain rfl := Option.some.inj (gFirst.symm.trans hg)
    obtain rfl := Option.some.inj (gFirstType.symm.trans hty)
    have hcs := cells_of_tab Tryd.underlying85 Tryd.underlying5 cells5 cellsFirst hd
    rw [World.var?_cell hg hvar c, ← Array.getElem?_toList, hcs]
    simp [firstTab, hc]
  · obtain ⟨g, t, cs, fuel, p, hg, hty, hvar, hd⟩ := h4
    obtain rfl := Option.some.inj (gAccept.symm.trans hg)
    obtain rfl := Option.some.inj (gAcceptType.symm.trans hty)
    obtain ⟨fuel', d, q, hdi, he⟩ := array_elem Tryd.underlying88 hd i hi
    simp only [List.getElem?_map, List.getElem?_range hi, Option.map_some, Option.some.injEq] at hdi
    subst hdi
    rw [cellsAcc] at he
    have hcs := ints_of_struct Tryd.underlying87 (fun j f hj => by
      match j, hj with
      | 0, hj => simp at hj; subst hj; exact ⟨Tryd.underlying5, rfl, cells5⟩
      | 1, hj => simp at hj; subst hj; exact ⟨Tryd.underlying5, rfl, cells5⟩
      | j + 2, hj => simp at hj) (by rw [cellsAcc]; rfl) he
    have e0 := congrArg (·[0]?) hcs
    have e1 := congrArg (·[1]?) hcs
    simp only [List.getElem?_take, List.getElem?_drop] at e0 e1
    constructor
    · rw [World.var?_cell hg hvar (2 * i), ← Array.getElem?_toList]
      simpa [Nat.mul_comm] using e0
    · rw [World.var?_cell hg hvar (2 * i + 1), ← Array.getElem?_toList]
      simpa [Nat.mul_comm] using e1

/-- Both tables, from a list that names them. -/
theorem tabs_of {w : World} {L : List (String × DataW Unit)} (h : laidMet Tryd.prog L w) (h1 : ("stylus/width.spans", Rows.laid_stylus_width_spans) ∈ L) (h2 : ("unicode/utf8.first", Rows.laid_unicode_utf8_first) ∈ L) (h3 : ("unicode/utf8.acceptRanges", Rows.laid_unicode_utf8_acceptRanges) ∈ L) :
    Tab w ∧ Lib.Utf8Tabs 2 3 w :=
  ⟨tab_of (by rw [← spansIs]; exact laidMet.reads h h1), utf_of (by rw [← firstIs]; exact laidMet.reads h h2) (by rw [← acceptIs]; exact laidMet.reads h h3)⟩
end Go.Proofs.YtnbpkabnaipimaaDoor
