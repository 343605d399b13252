/- VtPaints's card. No conditions. -/
import Derived.Test.YtnbpkabnaipimaaGreatDoorLaid
import Derived.Test.YtnbpkabnaipimaaGreatDoorVw
import Derived.Stop.LaidErr
import Derived.Shelf.Vars
import Derived.Test.YtnbpkabnaipimaaGreatDoorPaintsCard
import Derived.Test.YtnbpkabnaipimaaGreatDoorVj
import Derived.Test.YtnbpkabnaipimaaGreatDoorVq
import Derived.Test.YtnbpkabnaipimaaGreatDoorKnows
namespace Go.Proofs.YtnbpkabnaipimaaGreatDoor
open Go Go.RowKit Go.Lib Go.ChangeShapes Go.WideShapes Go.ChangeAt
set_option maxRecDepth 100000

/-- What the row lists. -/
def laidList : List (String × DataW Unit) := Rows.vtPaintsRow.laid
theorem laid_in {x : String × DataW Unit} (h : x ∈ Rows.vtPaintsRow.laid) : x ∈ laidList := h
theorem gSty : Tryz.prog.globalNamed "stylus/vt.styleNumbers" = some 0 := by kernel_rfl
theorem gStyType : (Tryz.prog.globals[0]?).map (·.type) = some 73 := by kernel_rfl
theorem gPowType : (Tryz.prog.globals[4]?).map (·.type) = some 111 := by kernel_rfl
theorem gSyntax : Tryz.prog.globalNamed "strconv.ErrSyntax" = some 8 := by kernel_rfl
theorem gSyntaxType : (Tryz.prog.globals[8]?).map (·.type) = some 122 := by kernel_rfl
theorem gRange : Tryz.prog.globalNamed "strconv.ErrRange" = some 9 := by kernel_rfl
theorem gRangeType : (Tryz.prog.globals[9]?).map (·.type) = some 122 := by kernel_rfl
theorem cellsSty : Tryz.prog.cellsOf 73 = 3 := by kernel_rfl
theorem cellsPow : Tryz.prog.cellsOf 111 = 20 := by kernel_rfl
theorem cellsU64 : Tryz.prog.cellsOf 81 = 1 := by kernel_rfl
theorem cellsES : Tryz.prog.cellsOf 151 = 1 := by kernel_rfl
theorem cellsStr : Tryz.prog.cellsOf 9 = 1 := by kernel_rfl
theorem styIs : (Rows.laid_stylus_vt_styleNumbers : DataW Unit) = tabData .i64 [7, 4, 1] := by kernel_rfl
theorem powIs : (Rows.laid_internal_strconv_uint64pow10 : DataW Unit) = tabData .u64 Lib.pow10Tab := by kernel_rfl

theorem sty_of {w : World} (h : VarReads Tryz.prog w "stylus/vt.styleNumbers" (tabData .i64 [7, 4, 1])) : w.cell? ⟨0, 0, none⟩ = some (.int .i64 7) ∧ w.cell? ⟨0, 1, none⟩ = some (.int .i64 4) ∧ w.cell? ⟨0, 2, none⟩ = some (.int .i64 1) := by
  obtain ⟨g, t, cs, fuel, p, hg, hty, hvar, hd⟩ := h
  obtain rfl := Option.some.inj (gSty.symm.trans hg)
  obtain rfl := Option.some.inj (gStyType.symm.trans hty)
  have hcs := cells_of_tab Tryz.underlying73 Tryz.underlying3 cells3 cellsSty hd
  refine ⟨?_, ?_, ?_⟩
  · rw [World.var?_cell hg hvar 0, ← Array.getElem?_toList, hcs]; rfl
  · rw [World.var?_cell hg hvar 1, ← Array.getElem?_toList, hcs]; rfl
  · rw [World.var?_cell hg hvar 2, ← Array.getElem?_toList, hcs]; rfl
theorem powTab {w : World} (h : VarReads Tryz.prog w "internal/strconv.uint64pow10" (tabData .u64 Lib.pow10Tab)) : Lib.TabIs Tryz.prog w "internal/strconv.uint64pow10" .u64 Lib.pow10Tab := by
  obtain ⟨g, t, cs, fuel, p, hg, hty, hvar, hd⟩ := h
  obtain rfl := Option.some.inj (gPow.symm.trans hg)
  obtain rfl := Option.some.inj (gPowType.symm.trans hty)
  have hcs := cells_of_tab Tryz.underlying111 Tryz.underlying81 cellsU64 cellsPow hd
  unfold Lib.TabIs
  rw [hvar, ← hcs]

theorem star : "*" ++ "errors.errorString" = "*errors.errorString" := by decide
theorem rowES (u : TypeId) (h : Tryz.prog.typeName? 3 u = some "*errors.errorString") : u = 149 :=
  typeName_ptr_named (nm := "errors.errorString") (by rw [star]; kernel_rfl) (by kernel_rfl) (by decide) u (by rw [star]; exact h)
theorem errRange {w : World} (h : laidMet Tryz.prog laidList w) : ∃ te pe, w.cell? ⟨9, 0, none⟩ = some (.iface te pe) := by
  have h5 := laidMet.tail (laidMet.tail (laidMet.tail (laidMet.tail (laidMet.tail h))))
  obtain ⟨a, s, hv, _⟩ := laid_sentinel h5 gRange gRangeType Tryz.underlying122 rowES Tryz.underlying149 Tryz.underlying151 rfl rfl Tryz.underlying9 cellsES cellsStr
  have hc := World.var?_cell gRange hv 0
  exact ⟨149, .pointer (some a), by simpa using hc⟩
theorem errSyntax {w : World} (h : laidMet Tryz.prog laidList w) : ∃ te pe, w.cell? ⟨8, 0, none⟩ = some (.iface te pe) := by
  have h6 := laidMet.tail (laidMet.tail (laidMet.tail (laidMet.tail (laidMet.tail (laidMet.tail h)))))
  obtain ⟨a, s, hv, _⟩ := laid_sentinel h6 gSyntax gSyntaxType Tryz.underlying122 rowES Tryz.underlying149 Tryz.underlying151 rfl rfl Tryz.underlying9 cellsES cellsStr
  have hc := World.var?_cell gSyntax hv 0
  exact ⟨149, .pointer (some a), by simpa using hc⟩
theorem maxLenCell {w : World} (h : w.ShapedOpen Tryz.prog) : ∃ m, w.cell? ⟨7, 0, none⟩ = some (.int .i64 m) :=
  cell_of_shapedOpen_int (zero := #[.int .i64 0]) (t := 3) h (of_decide_eq_true (by kernel_rfl)) (by kernel_rfl) rfl (by kernel_rfl) (by kernel_rfl) Tryz.underlying3

/-- What the contracts ask of the world. -/
theorem wd_of (w : World) (hH : laidMetH Tryz.prog laidList w) (hs : w.ShapedOpen Tryz.prog) : Wd w := by
  have h : laidMet Tryz.prog laidList w := hH
  obtain ⟨te, pe, hr⟩ := errRange h
  obtain ⟨t, u⟩ := tabs_of h (laid_in (by simp [Rows.vtPaintsRow])) (laid_in (by simp [Rows.vtPaintsRow])) (laid_in (by simp [Rows.vtPaintsRow]))
  exact ⟨block_lt_of_cell hr, t, u, sty_of (by rw [← styIs]; exact laidMet.reads h (laid_in (by simp [Rows.vtPaintsRow]))), powTab (by rw [← powIs]; exact laidMet.reads h (laid_in (by simp [Rows.vtPaintsRow]))), maxLenCell hs, errSyntax h⟩
end Go.Proofs.YtnbpkabnaipimaaGreatDoor
namespace Go.Proofs.YtnbpkabnaipimaaGreatDoor
open Go Go.RowKit Go.Lib

theorem saidAll : Said Wd := { said0 with knows := fun w hw => knows_of said0 tsaid w hw }
theorem card : Rows.VtPaintsCardSaid := paints_card_of (paints_said saidAll wd_of)
end Go.Proofs.YtnbpkabnaipimaaGreatDoor
