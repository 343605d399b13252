/- VtShows's card. No conditions. -/
import Derived.Test.YtnbpkabnaipimaaDoorLaid
import Derived.Test.YtnbpkabnaipimaaDoorVw
import Derived.Stop.LaidErr
import Derived.Shelf.Vars
import Derived.Test.YtnbpkabnaipimaaDoorShowsCard
import Derived.Test.YtnbpkabnaipimaaDoorVj
import Derived.Test.YtnbpkabnaipimaaDoorVq
import Derived.Test.YtnbpkabnaipimaaDoorKnows
namespace Go.Proofs.YtnbpkabnaipimaaDoor
open Go Go.RowKit Go.Lib Go.ChangeShapes Go.WideShapes Go.ChangeAt
set_option maxRecDepth 100000

/-- What the row lists. -/
def laidList : List (String × DataW Unit) := Rows.vtShowsRow.laid
theorem laid_in {x : String × DataW Unit} (h : x ∈ Rows.vtShowsRow.laid) : x ∈ laidList := h
theorem gSty : Tryd.prog.globalNamed "stylus/vt.styleNumbers" = some 1 := by kernel_rfl
theorem gStyType : (Tryd.prog.globals[1]?).map (·.type) = some 75 := by kernel_rfl
theorem gPowType : (Tryd.prog.globals[4]?).map (·.type) = some 108 := by kernel_rfl
theorem gSyntax : Tryd.prog.globalNamed "strconv.ErrSyntax" = some 8 := by kernel_rfl
theorem gSyntaxType : (Tryd.prog.globals[8]?).map (·.type) = some 119 := by kernel_rfl
theorem gRange : Tryd.prog.globalNamed "strconv.ErrRange" = some 9 := by kernel_rfl
theorem gRangeType : (Tryd.prog.globals[9]?).map (·.type) = some 119 := by kernel_rfl
theorem cellsSty : Tryd.prog.cellsOf 75 = 3 := by kernel_rfl
theorem cellsPow : Tryd.prog.cellsOf 108 = 20 := by kernel_rfl
theorem cellsU64 : Tryd.prog.cellsOf 81 = 1 := by kernel_rfl
theorem cellsES : Tryd.prog.cellsOf 148 = 1 := by kernel_rfl
theorem cellsStr : Tryd.prog.cellsOf 9 = 1 := by kernel_rfl
theorem styIs : (Rows.laid_stylus_vt_styleNumbers : DataW Unit) = tabData .i64 [7, 4, 1] := by kernel_rfl
theorem powIs : (Rows.laid_internal_strconv_uint64pow10 : DataW Unit) = tabData .u64 Lib.pow10Tab := by kernel_rfl

theorem sty_of {w : World} (h : VarReads Tryd.prog w "stylus/vt.styleNumbers" (tabData .i64 [7, 4, 1])) : w.cell? ⟨1, 0, none⟩ = some (.int .i64 7) ∧ w.cell? ⟨1, 1, none⟩ = some (.int .i64 4) ∧ w.cell? ⟨1, 2, none⟩ = some (.int .i64 1) := by
  obtain ⟨g, t, cs, fuel, p, hg, hty, hvar, hd⟩ := h
  obtain rfl := Option.some.inj (gSty.symm.trans hg)
  obtain rfl := Option.some.inj (gStyType.symm.trans hty)
  have hcs := cells_of_tab Tryd.underlying75 Tryd.underlying3 cells3 cellsSty hd
  refine ⟨?_, ?_, ?_⟩
  · rw [World.var?_cell hg hvar 0, ← Array.getElem?_toList, hcs]; rfl
  · rw [World.var?_cell hg hvar 1, ← Array.getElem?_toList, hcs]; rfl
  · rw [World.var?_cell hg hvar 2, ← Array.getElem?_toList, hcs]; rfl
theorem powTab {w : World} (h : VarReads Tryd.prog w "internal/strconv.uint64pow10" (tabData .u64 Lib.pow10Tab)) : Lib.TabIs Tryd.prog w "internal/strconv.uint64pow10" .u64 Lib.pow10Tab := by
  obtain ⟨g, t, cs, fuel, p, hg, hty, hvar, hd⟩ := h
  obtain rfl := Option.some.inj (gPow.symm.trans hg)
  obtain rfl := Option.some.inj (gPowType.symm.trans hty)
  have hcs := cells_of_tab Tryd.underlying108 Tryd.underlying81 cellsU64 cellsPow hd
  unfold Lib.TabIs
  rw [hvar, ← hcs]

theorem star : "*" ++ "errors.errorString" = "*errors.errorString" := by decide
theorem rowES (u : TypeId) (h : Tryd.prog.typeName? 3 u = some "*errors.errorString") : u = 146 :=
  typeName_ptr_named (nm := "errors.errorString") (by rw [star]; kernel_rfl) (by kernel_rfl) (by decide) u (by rw [star]; exact h)
theorem errRange {w : World} (h : laidMet Tryd.prog laidList w) : ∃ te pe, w.cell? ⟨9, 0, none⟩ = some (.iface te pe) := by
  have h5 := laidMet.tail (laidMet.tail (laidMet.tail (laidMet.tail (laidMet.tail h))))
  obtain ⟨a, s, hv, _⟩ := laid_sentinel h5 gRange gRangeType Tryd.underlying119 rowES Tryd.underlying146 Tryd.underlying148 rfl rfl Tryd.underlying9 cellsES cellsStr
  have hc := World.var?_cell gRange hv 0
  exact ⟨146, .pointer (some a), by simpa using hc⟩
theorem errSyntax {w : World} (h : laidMet Tryd.prog laidList w) : ∃ te pe, w.cell? ⟨8, 0, none⟩ = some (.iface te pe) := by
  have h6 := laidMet.tail (laidMet.tail (laidMet.tail (laidMet.tail (laidMet.tail (laidMet.tail h)))))
  obtain ⟨a, s, hv, _⟩ := laid_sentinel h6 gSyntax gSyntaxType Tryd.underlying119 rowES Tryd.underlying146 Tryd.underlying148 rfl rfl Tryd.underlying9 cellsES cellsStr
  have hc := World.var?_cell gSyntax hv 0
  exact ⟨146, .pointer (some a), by simpa using hc⟩
theorem maxLenCell {w : World} (h : w.ShapedOpen Tryd.prog) : ∃ m, w.cell? ⟨7, 0, none⟩ = some (.int .i64 m) :=
  cell_of_shapedOpen_int (zero := #[.int .i64 0]) (t := 3) h (of_decide_eq_true (by kernel_rfl)) (by kernel_rfl) rfl (by kernel_rfl) (by kernel_rfl) Tryd.underlying3

/-- What the contracts ask of the world. -/
theorem wd_of (w : World) (hH : laidMetH Tryd.prog laidList w) (hs : w.ShapedOpen Tryd.prog) : Wd w := by
  have h : laidMet Tryd.prog laidList w := hH
  obtain ⟨te, pe, hr⟩ := errRange h
  obtain ⟨t, u⟩ := tabs_of h (laid_in (by simp [Rows.vtShowsRow])) (laid_in (by simp [Rows.vtShowsRow])) (laid_in (by simp [Rows.vtShowsRow]))
  exact ⟨block_lt_of_cell hr, t, u, sty_of (by rw [← styIs]; exact laidMet.reads h (laid_in (by simp [Rows.vtShowsRow]))), powTab (by rw [← powIs]; exact laidMet.reads h (laid_in (by simp [Rows.vtShowsRow]))), maxLenCell hs, errSyntax h⟩
end Go.Proofs.YtnbpkabnaipimaaDoor
namespace Go.Proofs.YtnbpkabnaipimaaDoor
open Go Go.RowKit Go.Lib

theorem saidAll : Said Wd := { said0 with knows := fun w hw => knows_of said0 tsaid w hw }
theorem card : Rows.VtShowsCardSaid := shows_card_of (shows_said saidAll tsaid wd_of)
end Go.Proofs.YtnbpkabnaipimaaDoor
